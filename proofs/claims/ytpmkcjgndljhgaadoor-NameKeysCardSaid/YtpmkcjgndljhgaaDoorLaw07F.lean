/- layer 7: keys and nonces -/
import Derived.Test.YtpmkcjgndljhgaaDoorLaw07A
import Derived.Test.YtpmkcjgndljhgaaDoorNameOpK
import Derived.Test.YtpmkcjgndljhgaaDoorNameRefK
import Derived.Test.YtpmkcjgndljhgaaDoorNameRefN
import Derived.Test.YtpmkcjgndljhgaaDoorKeyEq
import Derived.Test.YtpmkcjgndljhgaaDoorShaLaid
import Derived.Test.YtpmkcjgndljhgaaDoorPowOf
import Derived.Deep.RegionHeld3
import Derived.Lib.SlBytesConst

namespace Go.Proofs.YtpmkcjgndljhgaaDoor
open Go.ChangeShapes Go.WideShapes Go.ChangeAt Go.RowKit

theorem keys_laid {W : World} (h : laidMetH Tryd.prog Rows.nameKeysRow.laid W) : PowT W ∧ ShaT W ∧ KAt W 2 := by
  obtain ⟨ps, h, -⟩ := h
  have hp : PowT W := pow_of h
  obtain ⟨⟨q1, h1⟩, -⟩ := laid_cons h
  obtain ⟨⟨q2, h2⟩, -⟩ := laid_cons h1
  obtain ⟨⟨q3, h3⟩, -⟩ := laid_cons h2
  obtain ⟨⟨q4, h4⟩, f1⟩ := laid_cons h3
  obtain ⟨⟨q5, h5⟩, f2⟩ := laid_cons h4
  obtain ⟨-, f3⟩ := laid_cons h5
  refine ⟨hp, ⟨kat_of ?_, stat_of ?_⟩, kat_of ?_⟩
  · exact f2 (t := 134) (n := 64) (zs := shaK.map fun n : Nat => (n : Int)) rfl (by kernel_rfl) (by kernel_rfl) (by kernel_rfl) Tryd.underlying100 (by kernel_rfl)
  · exact f1 (t := 116) (n := 8) (zs := shaInit.list.map fun n : Nat => (n : Int)) rfl (by kernel_rfl) (by kernel_rfl) (by kernel_rfl) Tryd.underlying100 (by kernel_rfl)
  · exact f3 (t := 134) (n := 64) (zs := shaK.map fun n : Nat => (n : Int)) rfl (by kernel_rfl) (by kernel_rfl) (by kernel_rfl) Tryd.underlying100 (by kernel_rfl)

set_option maxRecDepth 100000 in
set_option maxHeartbeats 4000000 in
/-- P7.4 -/
theorem keys7_any (C : NameC PowT) (W : World) (root : List UInt8) (h : Hd) (p : Nat) (hL : laidMetH Tryd.prog Rows.nameKeysRow.laid W) (hr : root.length = 32) (hk : h.ok) (hp : (p : Int) ≤ 18446744073709551615) :
    Calls Tryd.prog 8 #[.agg (bs root).toArray, .agg (hdCells h).toArray, .int .u64 p] W fun e W' => e = .returned (.bool true) ∧ Fr Non W W' := by
  have HTT := Lib.hid (keys_laid hL).1
  have HT := Lib.hid (keys_laid hL).2
  have HK := Lib.hid hk
  have HR := Lib.hid hr
  have HP := Lib.hid hp
  have hdl := macDerive_length root (hdLay h)
  obtain ⟨D, hD⟩ : ∃ D, D = macDerive root (hdLay h) := ⟨_, rfl⟩
  rw [← hD] at hdl
  have heq := eqKey hdl
  have hnl := nonceOf_length p
  obtain ⟨E, hE⟩ : ∃ E, E = nonceOf p := ⟨_, rfl⟩
  rw [← hE] at hnl
  have hne : ∀ w, (binOp .eql 47 (.agg (bs E).toArray) (.agg (bs E).toArray)).run Tryd.prog w = .ok (.bool true) w := fun w => by
    have h := run_eql_bytes (P := Tryd.prog) w 47 5 12 Tryd.underlying47 Tryd.underlying5 size25 E E hnl hnl
    rw [beq_self_eq_true] at h
    exact h
  have HDE := Lib.hid (And.intro hD hE)
  have hif : (Tryd.prog.info? 42).map (·.size) = some (bs root).length := by rw [bs_length, hr]; kernel_rfl
  have hih : (Tryd.prog.info? 32).map (·.size) = some 5 := by kernel_rfl
  have huh := Tryd.underlying32
  have hud := Tryd.underlying42
  clear hL hr hk hp hD hE hdl hnl
  go_enter Tryd.func8, Tryd.ntmps8
  go_upto_region 1 with (fail)
  have hb1 := (Blk.new W 42 (bs root)).non (Fr.alloc _ (.cells (hdCells h).toArray 32))
  have hb2 := Blk.new (W.alloc (.cells (bs root).toArray 42)) 32 (hdCells h)
  have hf := (Fr.alloc W (.cells (bs root).toArray 42)).non (Fr.alloc _ (.cells (hdCells h).toArray 32))
  have hs1 : (W.alloc (.cells (bs root).toArray 42)).heap.size = W.heap.size + 1 := by simp
  rw [hs1] at hb2
  generalize (W.alloc (.cells (bs root).toArray 42)).alloc (.cells (hdCells h).toArray 32) = w1 at hb1 hb2 hf ⊢
  obtain ⟨P, hP⟩ : ∃ P, P = W.heap.size := ⟨_, rfl⟩
  rw [← hP] at hb1 hb2 ⊢
  have HPB := Lib.hid (hb1.non (Fr.drew _))
  have HQB := Lib.hid (hb2.non (Fr.drew _))
  have F0 := Lib.hid (hf.non (Fr.drew _))
  have hS0 : (fun w' : World => Blk w' P 42 (bs root) ∧ Blk w' (P + 1) 32 (hdCells h)) w1.drew := ⟨HPB.out, HQB.out⟩
  clear hb1 hb2 hf hs1 hP
  refine wp_region_held_drew (S := fun w' : World => Blk w' P 42 (bs root) ∧ Blk w' (P + 1) 32 (hdCells h)) (by kernel_rfl) hS0 (fun hHeld => ?_)
  generalize w1.drew = w4 at HPB HQB F0 hS0 hHeld ⊢
  refine wpAnyH_ready (rs := [0]) (by kernel_rfl) (by simp) ?_
  refine AllReadyH.cons (o := ⟨some 7, _, _, _, _, _⟩) rfl (fun K hK => ?_) (AllReadyH.nil)
  go_simp
  go_wp2_with (go_at_call 10; refine (shown7_any C _ (C.tf HTT.out F0.out)).mono ?_; rintro e r1 ⟨rfl, hf1⟩)
  have F1 : Hid (Fr Non w4 r1) := Lib.hid hf1
  clear hf1
  refine hK.out _ _ (⟨HPB.out.non F1.out, HQB.out.non F1.out⟩) (fun hHeld => ?_)
  clear hK K
  refine wpAnyH_takeL (i := 1) 8 (v := ?_) rfl rfl (by kernel_rfl) (by kernel_rfl) (by kernel_rfl) (fun _ _ _ h => h) (by assumption) (Or.inl ⟨by rfl, ?_⟩) ?_
  rotate_left
  · intro w hSw; go_simp; (try with_reducible rfl)
  simp only [List.set_cons_zero, List.set_cons_succ]
  refine wpAnyH_takeL (i := 2) 9 (v := .agg (bs root).toArray) rfl rfl (by kernel_rfl) (by kernel_rfl) (by kernel_rfl) (fun _ _ _ h => h) (by assumption) (yieldsIf_load_mid (by rfl) _ _ rfl P (0) rfl (bs root) _ (fun w h => h.1.range 0 _ (fun j v hj => by simpa using hj)) hud rfl hif) ?_
  simp only [List.set_cons_zero, List.set_cons_succ]
  refine wpAnyH_takeL (i := 3) 10 (v := .agg (hdCells h).toArray) rfl rfl (by kernel_rfl) (by kernel_rfl) (by kernel_rfl) (fun _ _ _ h => h) (by assumption) (yieldsIf_load_mid (by rfl) _ _ rfl (P + 1) (0) rfl (hdCells h) _ (fun w h => h.2.range 0 _ (fun j v hj => by simpa using hj)) huh rfl hih) ?_
  simp only [List.set_cons_zero, List.set_cons_succ]
  refine wpAnyH_takeL (i := 5) 12 (v := .agg (bs root).toArray) rfl rfl (by kernel_rfl) (by kernel_rfl) (by kernel_rfl) (fun _ _ _ h => h) (by assumption) (yieldsIf_load_mid (by rfl) _ _ rfl P (0) rfl (bs root) _ (fun w h => h.1.range 0 _ (fun j v hj => by simpa using hj)) hud rfl hif) ?_
  simp only [List.set_cons_zero, List.set_cons_succ]
  refine wpAnyH_takeL (i := 6) 13 (v := .agg (hdCells h).toArray) rfl rfl (by kernel_rfl) (by kernel_rfl) (by kernel_rfl) (fun _ _ _ h => h) (by assumption) (yieldsIf_load_mid (by rfl) _ _ rfl (P + 1) (0) rfl (hdCells h) _ (fun w h => h.2.range 0 _ (fun j v hj => by simpa using hj)) huh rfl hih) ?_
  simp only [List.set_cons_zero, List.set_cons_succ]
  refine wpAnyH_ready (rs := [4]) (by kernel_rfl) (by simp) ?_
  refine AllReadyH.cons (o := ⟨some 11, _, _, _, _, _⟩) rfl (fun K hK => ?_) (AllReadyH.nil)
  go_simp
  go_wp2_with (go_at_call 21; refine (keyOf_any root h _ HR.out HK.out C (HT.out.1.non (F0.out.non F1.out))).mono ?_; rintro e r2 ⟨rfl, hf2⟩)
  have F2 : Hid (Fr Non r1 r2) := Lib.hid hf2
  clear hf2
  rw [← HDE.out.1]
  refine hK.out _ _ (⟨HPB.out.non (F1.out.non F2.out), HQB.out.non (F1.out.non F2.out)⟩) (fun hHeld => ?_)
  clear hK K
  refine wpAnyH_ready (rs := [7]) (by kernel_rfl) (by simp) ?_
  refine AllReadyH.cons (o := ⟨some 14, _, _, _, _, _⟩) rfl (fun K hK => ?_) (AllReadyH.nil)
  go_simp
  go_wp2_with (go_at_call 22; refine (refKeyOf_any root h _ HR.out HK.out (HT.out.2.frame (F0.out.non (F1.out.non F2.out)) (fun h => h))).mono ?_; rintro e r3 ⟨rfl, hf3⟩)
  have F3 : Hid (Fr Non r2 r3) := Lib.hid hf3
  clear hf3
  rw [← HDE.out.1]
  refine hK.out _ _ (⟨HPB.out.non (F1.out.non (F2.out.non F3.out)), HQB.out.non (F1.out.non (F2.out.non F3.out))⟩) (fun hHeld => ?_)
  clear hK K
  refine wpAnyH_takeL (i := 8) 15 (v := ?_) rfl rfl (by kernel_rfl) (by kernel_rfl) (by kernel_rfl) (fun _ _ _ h => h) (by assumption) (Or.inl ⟨by rfl, ?_⟩) ?_
  rotate_left
  · intro w hSw; go_simp; (try with_reducible rfl)
  simp only [List.set_cons_zero, List.set_cons_succ]
  refine wpAnyH_takeL (i := 9) 16 (v := ?_) rfl rfl (by kernel_rfl) (by kernel_rfl) (by kernel_rfl) (fun _ _ _ h => h) (by assumption) (Or.inl ⟨by rfl, ?_⟩) ?_
  rotate_left
  · intro w hSw; go_simp; (try with_reducible rfl)
  simp only [List.set_cons_zero, List.set_cons_succ]
  refine wpAnyH_takeL (i := 10) 17 (v := ?_) rfl rfl (by kernel_rfl) (by kernel_rfl) (by kernel_rfl) (fun _ _ _ h => h) (by assumption) (Or.inl ⟨by rfl, ?_⟩) ?_
  rotate_left
  · intro w hSw; go_simp; (try with_reducible rfl)
  simp only [List.set_cons_zero, List.set_cons_succ]
  refine wpAnyH_takeL (i := 11) 18 (v := ?_) rfl rfl (by kernel_rfl) (by kernel_rfl) (by kernel_rfl) (fun _ _ _ h => h) (by assumption) (Or.inl ⟨by rfl, ?_⟩) ?_
  rotate_left
  · intro w hSw; go_simp; (try with_reducible rfl)
  simp only [List.set_cons_zero, List.set_cons_succ]
  refine wpAnyH_takeL (i := 13) 20 (v := ?_) rfl rfl (by kernel_rfl) (by kernel_rfl) (by kernel_rfl) (fun _ _ _ h => h) (by assumption) (Or.inl ⟨by rfl, ?_⟩) ?_
  rotate_left
  · intro w hSw; go_simp; (try with_reducible rfl)
  simp only [List.set_cons_zero, List.set_cons_succ]
  refine wpAnyH_ready (rs := [12]) (by kernel_rfl) (by simp) ?_
  refine AllReadyH.cons (o := ⟨some 19, _, _, _, _, _⟩) rfl (fun K hK => ?_) (AllReadyH.nil)
  go_simp
  go_wp2_with (go_at_call 23; refine (C.nonce p _ (by have := HP.out; omega)).mono ?_; rintro e r4 ⟨rfl, hf4⟩)
  have F4 : Hid (Fr Non r3 r4) := Lib.hid hf4
  clear hf4
  rw [← HDE.out.2]
  refine hK.out _ _ (⟨HPB.out.non (F1.out.non (F2.out.non (F3.out.non F4.out))), HQB.out.non (F1.out.non (F2.out.non (F3.out.non F4.out)))⟩) (fun hHeld => ?_)
  clear hK K
  refine wpAnyH_ready (rs := [14]) (by kernel_rfl) (by simp) ?_
  refine AllReadyH.cons (o := ⟨some 21, _, _, _, _, _⟩) rfl (fun K hK => ?_) (AllReadyH.nil)
  go_simp
  go_wp2_with (go_at_call 24; refine (refNonce_any p _ (by have := HP.out; omega)).mono ?_; rintro e r5 ⟨rfl, hf5⟩)
  have F5 : Hid (Fr Non r4 r5) := Lib.hid hf5
  clear hf5
  rw [← HDE.out.2]
  refine hK.out _ _ (⟨HPB.out.non (F1.out.non (F2.out.non (F3.out.non (F4.out.non F5.out)))), HQB.out.non (F1.out.non (F2.out.non (F3.out.non (F4.out.non F5.out))))⟩) (fun hHeld => ?_)
  clear hK K
  refine wpAnyH_takeL (i := 15) 22 (v := ?_) rfl rfl (by kernel_rfl) (by kernel_rfl) (by kernel_rfl) (fun _ _ _ h => h) (by assumption) (Or.inl ⟨by rfl, ?_⟩) ?_
  rotate_left
  · intro w hSw; go_simp; (try with_reducible rfl)
  simp only [List.set_cons_zero, List.set_cons_succ]
  refine wpAnyH_takeL (i := 16) 23 (v := ?_) rfl rfl (by kernel_rfl) (by kernel_rfl) (by kernel_rfl) (fun _ _ _ h => h) (by assumption) (Or.inl ⟨by rfl, ?_⟩) ?_
  rotate_left
  · intro w hSw; go_simp; (try with_reducible rfl)
  simp only [List.set_cons_zero, List.set_cons_succ]
  refine wpAnyH_takeL (i := 17) 6 (v := ?_) rfl rfl (by kernel_rfl) (by kernel_rfl) (by kernel_rfl) (fun _ _ _ h => h) (by assumption) (Or.inl ⟨by rfl, ?_⟩) ?_
  rotate_left
  · intro w hSw; go_simp; (try with_reducible rfl)
  simp only [List.set_cons_zero, List.set_cons_succ]
  refine wpAnyH_done (by kernel_rfl) ?_ _
  go_wp2_with fail
  go_ret
  exact ⟨rfl, F0.out.non (F1.out.non (F2.out.non (F3.out.non (F4.out.non F5.out))))⟩
end Go.Proofs.YtpmkcjgndljhgaaDoor
