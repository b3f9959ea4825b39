/- package ikey: the order of entries -/
import Derived.Test.YteokfgdennjjiaaIkeyOpA
import Derived.Test.YteokfgdennjjiaaHeld
import Derived.Deep.RegionHeld3
import Derived.Deep.CutBlock
import Derived.Deep.DeepCutAuto
import Derived.Lib.SlBytesConst
namespace Go.Proofs.Yteokfgdennjjiaa
open Go.ChangeShapes Go.WideShapes Go.ChangeAt Go.RowKit

/-! the order, in cmp's words -/
def entOrd (a b : Ent) : Int := if cmpS a.user b.user = 0 then cmpN b.seq a.seq else cmpS a.user b.user
theorem cmpS_range (a b : ByteArray) : cmpS a b = -1 ∨ cmpS a b = 0 ∨ cmpS a b = 1 := by
  unfold cmpS
  split
  · exact .inl rfl
  · split
    · exact .inr (.inr rfl)
    · exact .inr (.inl rfl)
theorem cmpN_range (a b : Nat) : cmpN a b = -1 ∨ cmpN a b = 0 ∨ cmpN a b = 1 := by
  unfold cmpN
  split
  · exact .inl rfl
  · split
    · exact .inr (.inr rfl)
    · exact .inr (.inl rfl)
theorem entCmp_ord (a b : Ent) : entCmp a b = if entOrd a b = 0 then cmpN b.kind a.kind else entOrd a b := by
  unfold entCmp entOrd cmpS cmpN
  repeat' split
  all_goals first | rfl | omega
theorem entAhead_ord (a b : Ent) : decide (0 ≤ entOrd a b) = !entAhead a b := by
  unfold entAhead entOrd
  rcases text_ways a.user b.user with h | ⟨h, h2, h3⟩ | h
  · have e : cmpS a.user b.user = -1 := by unfold cmpS; rw [if_pos (show sLt a.user b.user = true from h)]
    rw [e, show sLt a.user b.user = true from h]
    rfl
  · have e : cmpS a.user b.user = 1 := by unfold cmpS; rw [if_neg (by unfold sLt; rw [h]; decide), if_pos (show sLt b.user a.user = true from h3)]
    rw [e, show sLt a.user b.user = false from h, h2]
    rfl
  · rw [h]
    have e : cmpS b.user b.user = 0 := by unfold cmpS; rw [sLt_irrefl]; simp
    rw [e, sLt_irrefl, if_pos rfl]
    have hb : (b.user.toList == b.user.toList) = true := by simp
    rw [hb, Bool.false_or, Bool.true_and]
    unfold cmpN
    by_cases hs : b.seq < a.seq
    · rw [if_pos hs, decide_eq_true hs]; rfl
    · rw [if_neg hs, decide_eq_false hs]
      split <;> rfl

set_option maxRecDepth 100000 in
theorem or_any (B : Nat) (x y z : Int) (w : World) (hz : z = if x = 0 then y else x) (h0 : w.cell? ⟨B, 0, none⟩ = some (.int .i64 x)) (h1 : w.cell? ⟨B, 1, none⟩ = some (.int .i64 y)) :
    Calls Try.prog 25 #[.slice (some ⟨B, 0, none⟩) 2 2] w fun r w' => r = .returned (.int .i64 z) ∧ w' = w := by
  subst hz
  have HE : Hid (∀ z : Int, (x ≠ 0 → z = x) → (x = 0 → z = y) → (if x = 0 then y else x) = z) := Lib.hid (by intro z a b; split <;> rename_i h; exact (b h).symm; exact (a h).symm)
  generalize (if x = 0 then y else x) = r0 at HE ⊢
  go_enter Try.func25, Try.ntmps25
  go_wp2_with fail
  go_loopw [8] (fun i' wr => ∃ (i : Nat), i' = .int .i64 i ∧ (i = 0 ∨ (i = 1 ∧ x = 0) ∨ (i = 2 ∧ x = 0 ∧ y = 0)) ∧ wr = w) (fun i' _ => 2 - (intOf i').toNat)
  case atStart => exact ⟨0, rfl, .inl rfl, rfl⟩
  case round =>
    obtain ⟨i, rfl, hi, rfl⟩ := hrel
    rcases hi with rfl | ⟨rfl, hx⟩ | ⟨rfl, hx, hy⟩
    · by_cases hx : x = 0
      · have e0 : (x == 0) = true := by simp [hx]
        go_wp2_with fail
        go_roundw
        case rel => exact ⟨1, by go_num, .inr (.inl (by simp [hx])), by first | rfl | trivial⟩
        case measure => simp [intOf]
      · have e0 : (x == 0) = false := by simpa using hx
        go_wp2_with fail
        go_ret
        exact ⟨by rw [HE.out x (fun _ => rfl) (fun h => absurd h hx)]; rfl, rfl⟩
    · by_cases hy : y = 0
      · have e0 : (y == 0) = true := by simp [hy]
        go_wp2_with fail
        go_roundw
        case rel => exact ⟨2, by go_num, .inr (.inr (by simp [hx, hy])), by first | rfl | trivial⟩
        case measure => simp [intOf]
      · have e0 : (y == 0) = false := by simpa using hy
        go_wp2_with fail
        go_ret
        exact ⟨by rw [HE.out y (fun h => absurd hx h) (fun _ => rfl)]; rfl, rfl⟩
    · go_wp2_with fail
      go_ret
      exact ⟨by rw [HE.out 0 (fun h => absurd hx h) (fun _ => hy.symm)]; rfl, rfl⟩
set_option maxRecDepth 100000 in
set_option maxHeartbeats 4000000 in
theorem order_any (a b : Ent) (W : World) : Calls Try.prog 26 #[.agg (entCells a).toArray, .agg (entCells b).toArray] W fun r w' => r = .returned (.int .i64 (entOrd a b)) ∧ Fr Non W w' := by
  have HE : Hid (entOrd a b = if cmpS a.user b.user = 0 then cmpN b.seq a.seq else cmpS a.user b.user) := Lib.hid rfl
  generalize entOrd a b = z at HE ⊢
  go_enter Try.func26, Try.ntmps26
  go_upto_region 1 with (fail)
  have hb1 := Blk.new W 24 (entCells a)
  have hf1 := Fr.alloc W (.cells (entCells a).toArray 24)
  have hs1 : (W.alloc (.cells (entCells a).toArray 24)).heap.size = W.heap.size + 1 := by simp
  generalize W.alloc (.cells (entCells a).toArray 24) = w0 at hb1 hf1 hs1 ⊢
  have hb2 := Blk.new w0 24 (entCells b)
  have hf2 := Fr.alloc w0 (.cells (entCells b).toArray 24)
  generalize w0.alloc (.cells (entCells b).toArray 24) = w1 at hb2 hf2 ⊢
  rw [hs1] at hb2
  obtain ⟨P, hP⟩ : ∃ P, P = W.heap.size := ⟨_, rfl⟩
  rw [← hP] at hb1 hb2 ⊢
  have HP := Lib.hid ((hb1.non hf2).non (Fr.drew _))
  have HQ := Lib.hid (hb2.non (Fr.drew _))
  have F0 := Lib.hid ((hf1.non hf2).non (Fr.drew _))
  clear hb1 hb2 hf1 hf2 hs1 hP
  have hS0 : (fun w' : World => w'.cell? ⟨P, 0, none⟩ = some (.string a.user) ∧ w'.cell? ⟨P, 1, none⟩ = some (.int .u64 a.seq) ∧ w'.cell? ⟨P + 1, 0, none⟩ = some (.string b.user) ∧ w'.cell? ⟨P + 1, 1, none⟩ = some (.int .u64 b.seq)) w1.drew := ⟨(entCells_at HP.out).1, (entCells_at HP.out).2.1, (entCells_at HQ.out).1, (entCells_at HQ.out).2.1⟩
  refine wp_region_held_drew (S := fun w' : World => w'.cell? ⟨P, 0, none⟩ = some (.string a.user) ∧ w'.cell? ⟨P, 1, none⟩ = some (.int .u64 a.seq) ∧ w'.cell? ⟨P + 1, 0, none⟩ = some (.string b.user) ∧ w'.cell? ⟨P + 1, 1, none⟩ = some (.int .u64 b.seq)) (by kernel_rfl) hS0 (fun hHeld => ?_)
  generalize w1.drew = w4 at HP HQ F0 hS0 hHeld ⊢
  refine wpAnyH_takeL (i := 0) 5 (v := ?_) rfl rfl (by kernel_rfl) (by kernel_rfl) (by kernel_rfl) (fun _ _ _ h => h) (by assumption) (Or.inl ⟨by rfl, ?_⟩) ?_
  rotate_left
  · intro w hSw; go_simp; (try with_reducible rfl)
  simp only [List.set_cons_zero, List.set_cons_succ]
  refine wpAnyH_takeL (i := 1) 6 (v := ?_) rfl rfl (by kernel_rfl) (by kernel_rfl) (by kernel_rfl) (fun _ _ _ h => h) (by assumption) (Or.inl ⟨by rfl, ?_⟩) ?_
  rotate_left
  · intro w hSw; go_simp; (try with_reducible rfl)
  simp only [List.set_cons_zero, List.set_cons_succ]
  refine wpAnyH_takeL (i := 2) 7 (v := ?_) rfl rfl (by kernel_rfl) (by kernel_rfl) (by kernel_rfl) (fun _ _ _ h => h) (by assumption) (Or.inl ⟨by rfl, ?_⟩) ?_
  rotate_left
  · intro w hSw; go_simp; (try with_reducible rfl)
  simp only [List.set_cons_zero, List.set_cons_succ]
  refine wpAnyH_takeL (i := 3) 8 (v := ?_) rfl rfl (by kernel_rfl) (by kernel_rfl) (by kernel_rfl) (fun _ _ _ h => h) (by assumption) (Or.inl ⟨by rfl, ?_⟩) ?_
  rotate_left
  · intro w hSw; go_simp; (try with_reducible rfl)
  simp only [List.set_cons_zero, List.set_cons_succ]
  refine wpAnyH_takeL (i := 5) 10 (v := ?_) rfl rfl (by kernel_rfl) (by kernel_rfl) (by kernel_rfl) (fun _ _ _ h => h) (by assumption) (Or.inl ⟨by rfl, ?_⟩) ?_
  rotate_left
  · intro w hSw; go_simp; (try with_reducible rfl)
  simp only [List.set_cons_zero, List.set_cons_succ]
  refine wpAnyH_takeL (i := 6) 11 (v := ?_) rfl rfl (by kernel_rfl) (by kernel_rfl) (by kernel_rfl) (fun _ _ _ h => h) (by assumption) (Or.inl ⟨by rfl, ?_⟩) ?_
  rotate_left
  · intro w hSw; go_simp; (try with_reducible rfl)
  simp only [List.set_cons_zero, List.set_cons_succ]
  refine wpAnyH_takeL (i := 7) 12 (v := ?_) rfl rfl (by kernel_rfl) (by kernel_rfl) (by kernel_rfl) (fun _ _ _ h => h) (by assumption) (Or.inl ⟨by rfl, ?_⟩) ?_
  rotate_left
  · intro w hSw; go_simp; (try with_reducible rfl)
  simp only [List.set_cons_zero, List.set_cons_succ]
  refine wpAnyH_takeL (i := 8) 13 (v := ?_) rfl rfl (by kernel_rfl) (by kernel_rfl) (by kernel_rfl) (fun _ _ _ h => h) (by assumption) (Or.inl ⟨by rfl, ?_⟩) ?_
  rotate_left
  · intro w hSw; go_simp; (try with_reducible rfl)
  simp only [List.set_cons_zero, List.set_cons_succ]
  refine wpAnyH_ready (rs := [4]) (by kernel_rfl) (by simp) ?_
  refine AllReadyH.cons (o := ⟨some 9, _, _, _, _, _⟩) rfl (fun K hK => ?_) (AllReadyH.nil)
  go_simp
  go_wp2_with (go_at_call 37; refine (cmpS_any a.user b.user _).mono ?_; rintro e r0 ⟨rfl, hr0⟩; rw [hr0]; clear hr0)
  generalize cmpS a.user b.user = x at HE ⊢
  refine hK.out _ _ (⟨(entCells_at (HP.out.non (Fr.refl _ _))).1, (entCells_at (HP.out.non (Fr.refl _ _))).2.1, (entCells_at (HQ.out.non (Fr.refl _ _))).1, (entCells_at (HQ.out.non (Fr.refl _ _))).2.1⟩) (fun hHeld => ?_)
  clear hK K
  refine wpAnyH_ready (rs := [9]) (by kernel_rfl) (by simp) ?_
  refine AllReadyH.cons (o := ⟨some 14, _, _, _, _, _⟩) rfl (fun K hK => ?_) (AllReadyH.nil)
  go_simp
  go_wp2_with (go_at_call 38; refine (cmpQ_any b.seq a.seq _).mono ?_; rintro e r0 ⟨rfl, hr0⟩; rw [hr0]; clear hr0)
  generalize cmpN b.seq a.seq = y at HE ⊢
  refine hK.out _ _ (⟨(entCells_at (HP.out.non (Fr.refl _ _))).1, (entCells_at (HP.out.non (Fr.refl _ _))).2.1, (entCells_at (HQ.out.non (Fr.refl _ _))).1, (entCells_at (HQ.out.non (Fr.refl _ _))).2.1⟩) (fun hHeld => ?_)
  clear hK K
  refine wpAnyH_ready (rs := [10]) (by kernel_rfl) (by simp) ?_
  refine AllReadyH.cons (o := ⟨some 15, _, _, _, _, _⟩) rfl (fun K hK => ?_) (AllReadyH.nil)
  go_simp
  obtain ⟨G, hG⟩ : ∃ G, G = w4.heap.size := ⟨_, rfl⟩
  rw [← hG]
  obtain ⟨r1, hw1⟩ : ∃ w', w' = w4.alloc (.cells #[.int .i64 x, .int .i64 y] 3) := ⟨_, rfl⟩
  rw [← hw1]
  have F1 : Hid (Fr Non w4 r1) := Lib.hid (by rw [hw1]; exact Fr.alloc _ _)
  have RX : Hid (r1.cell? ⟨G, 0, none⟩ = some (.int .i64 x) ∧ r1.cell? ⟨G, 1, none⟩ = some (.int .i64 y)) := Lib.hid (by rw [hw1]; exact ⟨by rw [hG]; exact World.cell?_alloc_new _ _ _ 0, by rw [hG]; exact World.cell?_alloc_new _ _ _ 1⟩)
  clear hw1
  clear hG
  refine hK.out _ _ (⟨(entCells_at (HP.out.non F1.out)).1, (entCells_at (HP.out.non F1.out)).2.1, (entCells_at (HQ.out.non F1.out)).1, (entCells_at (HQ.out.non F1.out)).2.1⟩) (fun hHeld => ?_)
  clear hK K
  refine wpAnyH_ready (rs := [11]) (by kernel_rfl) (by simp) ?_
  refine AllReadyH.cons (o := ⟨some 16, _, _, _, _, _⟩) rfl (fun K hK => ?_) (AllReadyH.nil)
  go_simp
  go_wp2_with (go_at_call 25; refine (or_any G x y z _ HE.out RX.out.1 RX.out.2).mono ?_; rintro e r0 ⟨rfl, hr0⟩; rw [hr0]; clear hr0)
  refine hK.out _ _ (⟨(entCells_at (HP.out.non F1.out)).1, (entCells_at (HP.out.non F1.out)).2.1, (entCells_at (HQ.out.non F1.out)).1, (entCells_at (HQ.out.non F1.out)).2.1⟩) (fun hHeld => ?_)
  clear hK K
  refine wpAnyH_takeL (i := 12) 4 (v := ?_) rfl rfl (by kernel_rfl) (by kernel_rfl) (by kernel_rfl) (fun _ _ _ h => h) (by assumption) (Or.inl ⟨by rfl, ?_⟩) ?_
  rotate_left
  · intro w hSw; go_simp; (try with_reducible rfl)
  simp only [List.set_cons_zero, List.set_cons_succ]
  refine wpAnyH_done (by kernel_rfl) ?_ _
  go_wp2_with fail
  go_ret
  exact ⟨rfl, F0.out.non F1.out⟩
set_option maxRecDepth 100000 in
set_option maxHeartbeats 4000000 in
theorem entCmpC_any (a b : Ent) (W : World) : Calls Try.prog 11 #[.agg (entCells a).toArray, .agg (entCells b).toArray] W fun r w' => r = .returned (.int .i64 (entCmp a b)) ∧ Fr Non W w' := by
  have HE : Hid (entCmp a b = if entOrd a b = 0 then cmpN b.kind a.kind else entOrd a b) := Lib.hid (entCmp_ord a b)
  generalize entCmp a b = z at HE ⊢
  have hie : (Try.prog.info? 24).map (·.size) = some 4 := by kernel_rfl
  have hue := Try.underlying24
  go_enter Try.func11, Try.ntmps11
  go_upto_region 1 with (fail)
  have hb1 := Blk.new W 24 (entCells a)
  have hf1 := Fr.alloc W (.cells (entCells a).toArray 24)
  have hs1 : (W.alloc (.cells (entCells a).toArray 24)).heap.size = W.heap.size + 1 := by simp
  generalize W.alloc (.cells (entCells a).toArray 24) = w0 at hb1 hf1 hs1 ⊢
  have hb2 := Blk.new w0 24 (entCells b)
  have hf2 := Fr.alloc w0 (.cells (entCells b).toArray 24)
  generalize w0.alloc (.cells (entCells b).toArray 24) = w1 at hb2 hf2 ⊢
  rw [hs1] at hb2
  obtain ⟨P, hP⟩ : ∃ P, P = W.heap.size := ⟨_, rfl⟩
  rw [← hP] at hb1 hb2 ⊢
  have HP := Lib.hid ((hb1.non hf2).non (Fr.drew _))
  have HQ := Lib.hid (hb2.non (Fr.drew _))
  have F0 := Lib.hid ((hf1.non hf2).non (Fr.drew _))
  clear hb1 hb2 hf1 hf2 hs1 hP
  have hS0 : (fun w' : World => Blk w' P 24 (entCells a) ∧ Blk w' (P + 1) 24 (entCells b) ∧ w'.cell? ⟨P, 2, none⟩ = some (.int .u8 a.kind) ∧ w'.cell? ⟨P + 1, 2, none⟩ = some (.int .u8 b.kind)) w1.drew := ⟨HP.out, HQ.out, (entCells_at HP.out).2.2.1, (entCells_at HQ.out).2.2.1⟩
  refine wp_region_held_drew (S := fun w' : World => Blk w' P 24 (entCells a) ∧ Blk w' (P + 1) 24 (entCells b) ∧ w'.cell? ⟨P, 2, none⟩ = some (.int .u8 a.kind) ∧ w'.cell? ⟨P + 1, 2, none⟩ = some (.int .u8 b.kind)) (by kernel_rfl) hS0 (fun hHeld => ?_)
  generalize w1.drew = w4 at HP HQ F0 hS0 hHeld ⊢
  refine wpAnyH_takeL (i := 0) 5 (v := .agg (entCells a).toArray) rfl rfl (by kernel_rfl) (by kernel_rfl) (by kernel_rfl) (fun _ _ _ h => h) (by assumption) (yieldsIf_load_mid (by rfl) _ _ rfl P (0) rfl (entCells a) _ (fun w h => h.1.range 0 _ (fun j v hj => by simpa using hj)) hue rfl hie) ?_
  simp only [List.set_cons_zero, List.set_cons_succ]
  refine wpAnyH_takeL (i := 1) 6 (v := .agg (entCells b).toArray) rfl rfl (by kernel_rfl) (by kernel_rfl) (by kernel_rfl) (fun _ _ _ h => h) (by assumption) (yieldsIf_load_mid (by rfl) _ _ rfl (P + 1) (0) rfl (entCells b) _ (fun w h => h.2.1.range 0 _ (fun j v hj => by simpa using hj)) hue rfl hie) ?_
  simp only [List.set_cons_zero, List.set_cons_succ]
  refine wpAnyH_takeL (i := 3) 8 (v := ?_) rfl rfl (by kernel_rfl) (by kernel_rfl) (by kernel_rfl) (fun _ _ _ h => h) (by assumption) (Or.inl ⟨by rfl, ?_⟩) ?_
  rotate_left
  · intro w hSw; go_simp; (try with_reducible rfl)
  simp only [List.set_cons_zero, List.set_cons_succ]
  refine wpAnyH_takeL (i := 4) 9 (v := ?_) rfl rfl (by kernel_rfl) (by kernel_rfl) (by kernel_rfl) (fun _ _ _ h => h) (by assumption) (Or.inl ⟨by rfl, ?_⟩) ?_
  rotate_left
  · intro w hSw; go_simp; (try with_reducible rfl)
  simp only [List.set_cons_zero, List.set_cons_succ]
  refine wpAnyH_takeL (i := 5) 10 (v := ?_) rfl rfl (by kernel_rfl) (by kernel_rfl) (by kernel_rfl) (fun _ _ _ h => h) (by assumption) (Or.inl ⟨by rfl, ?_⟩) ?_
  rotate_left
  · intro w hSw; go_simp; (try with_reducible rfl)
  simp only [List.set_cons_zero, List.set_cons_succ]
  refine wpAnyH_takeL (i := 6) 11 (v := ?_) rfl rfl (by kernel_rfl) (by kernel_rfl) (by kernel_rfl) (fun _ _ _ h => h) (by assumption) (Or.inl ⟨by rfl, ?_⟩) ?_
  rotate_left
  · intro w hSw; go_simp; (try with_reducible rfl)
  simp only [List.set_cons_zero, List.set_cons_succ]
  refine wpAnyH_ready (rs := [2]) (by kernel_rfl) (by simp) ?_
  refine AllReadyH.cons (o := ⟨some 7, _, _, _, _, _⟩) rfl (fun K hK => ?_) (AllReadyH.nil)
  go_simp
  go_wp2_with (go_at_call 26; refine (order_any a b _).mono ?_; rintro e r1 ⟨rfl, hf1⟩)
  have F1 : Hid (Fr Non w4 r1) := Lib.hid hf1
  clear hf1
  generalize entOrd a b = x at HE ⊢
  refine hK.out _ _ (⟨(HP.out.non F1.out), (HQ.out.non F1.out), (entCells_at (HP.out.non F1.out)).2.2.1, (entCells_at (HQ.out.non F1.out)).2.2.1⟩) (fun hHeld => ?_)
  clear hK K
  refine wpAnyH_ready (rs := [7]) (by kernel_rfl) (by simp) ?_
  refine AllReadyH.cons (o := ⟨some 12, _, _, _, _, _⟩) rfl (fun K hK => ?_) (AllReadyH.nil)
  go_simp
  go_wp2_with (go_at_call 27; refine (cmpB_any b.kind a.kind _).mono ?_; rintro e r0 ⟨rfl, hr0⟩; rw [hr0]; clear hr0)
  generalize cmpN b.kind a.kind = y at HE ⊢
  refine hK.out _ _ (⟨(HP.out.non F1.out), (HQ.out.non F1.out), (entCells_at (HP.out.non F1.out)).2.2.1, (entCells_at (HQ.out.non F1.out)).2.2.1⟩) (fun hHeld => ?_)
  clear hK K
  refine wpAnyH_ready (rs := [8]) (by kernel_rfl) (by simp) ?_
  refine AllReadyH.cons (o := ⟨some 13, _, _, _, _, _⟩) rfl (fun K hK => ?_) (AllReadyH.nil)
  go_simp
  obtain ⟨G, hG⟩ : ∃ G, G = r1.heap.size := ⟨_, rfl⟩
  rw [← hG]
  obtain ⟨r2, hw2⟩ : ∃ w', w' = r1.alloc (.cells #[.int .i64 x, .int .i64 y] 3) := ⟨_, rfl⟩
  rw [← hw2]
  have F2 : Hid (Fr Non r1 r2) := Lib.hid (by rw [hw2]; exact Fr.alloc _ _)
  have RX : Hid (r2.cell? ⟨G, 0, none⟩ = some (.int .i64 x) ∧ r2.cell? ⟨G, 1, none⟩ = some (.int .i64 y)) := Lib.hid (by rw [hw2]; exact ⟨by rw [hG]; exact World.cell?_alloc_new _ _ _ 0, by rw [hG]; exact World.cell?_alloc_new _ _ _ 1⟩)
  clear hw2
  clear hG
  refine hK.out _ _ (⟨(HP.out.non (F1.out.non F2.out)), (HQ.out.non (F1.out.non F2.out)), (entCells_at (HP.out.non (F1.out.non F2.out))).2.2.1, (entCells_at (HQ.out.non (F1.out.non F2.out))).2.2.1⟩) (fun hHeld => ?_)
  clear hK K
  refine wpAnyH_ready (rs := [9]) (by kernel_rfl) (by simp) ?_
  refine AllReadyH.cons (o := ⟨some 14, _, _, _, _, _⟩) rfl (fun K hK => ?_) (AllReadyH.nil)
  go_simp
  go_wp2_with (go_at_call 25; refine (or_any G x y z _ HE.out RX.out.1 RX.out.2).mono ?_; rintro e r0 ⟨rfl, hr0⟩; rw [hr0]; clear hr0)
  refine hK.out _ _ (⟨(HP.out.non (F1.out.non F2.out)), (HQ.out.non (F1.out.non F2.out)), (entCells_at (HP.out.non (F1.out.non F2.out))).2.2.1, (entCells_at (HQ.out.non (F1.out.non F2.out))).2.2.1⟩) (fun hHeld => ?_)
  clear hK K
  refine wpAnyH_takeL (i := 10) 4 (v := ?_) rfl rfl (by kernel_rfl) (by kernel_rfl) (by kernel_rfl) (fun _ _ _ h => h) (by assumption) (Or.inl ⟨by rfl, ?_⟩) ?_
  rotate_left
  · intro w hSw; go_simp; (try with_reducible rfl)
  simp only [List.set_cons_zero, List.set_cons_succ]
  refine wpAnyH_done (by kernel_rfl) ?_ _
  go_wp2_with fail
  go_ret
  exact ⟨rfl, F0.out.non (F1.out.non F2.out)⟩
end Go.Proofs.Yteokfgdennjjiaa
