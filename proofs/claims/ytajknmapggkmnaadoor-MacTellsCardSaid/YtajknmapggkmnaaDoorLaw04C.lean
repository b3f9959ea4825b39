/- layer 4: the digest of bytes under a key -/
import Derived.Test.YtajknmapggkmnaaDoorLaw04B
namespace Go.Proofs.YtajknmapggkmnaaDoor
open Go.ChangeShapes Go.WideShapes Go.ChangeAt Go.RowKit

theorem eqD {D : List UInt8} (h : D.length = 32) : ∀ w : World, (binOp .eql 25 (.agg (bs D).toArray) (.agg (bs D).toArray)).run Tryd.prog w = .ok (.bool true) w := fun w => by
  rw [eqDigest w D D h h]; simp

set_option maxRecDepth 100000 in
set_option maxHeartbeats 4000000 in
/-- P4.1, P4.2 -/
theorem sums4_any (W : World) (v : Value) (key : List UInt8) (u : Value) (l : List UInt8) (cut : Nat) (hL : laidMetH Tryd.prog Rows.macSumsRow.laid W) (hv : Row W v (bs key)) (hkl : key.length ≤ 140737488351232) (hu : Row W u (bs l)) (hl : l.length ≤ 140737488351232) (_ : (cut : Int) ≤ IntKind.u64.max) :
    Calls Tryd.prog 3 #[v, u, .int .u64 cut] W fun e W' => e = .returned (.bool true) ∧ Fr Non W W' := by
  have hT := shaT_3 hL
  have HT := Lib.hid hT.1
  have HK := Lib.hid hT.2
  have HV := Lib.hid hv
  clear hT hL hv
  obtain ⟨a, c, rfl, q1, q2, q3, q4⟩ := id hu
  simp only [bs_length] at *
  clear q4 q3
  obtain ⟨n, hn⟩ : ∃ n, n = l.length := ⟨_, rfl⟩
  rw [← hn] at hu hl q1 ⊢
  unfold maxLen at q2
  have hmod : (cut : Int) % ((n : Int) + 1) = ((cut % (n + 1) : Nat) : Int) := by push_cast; rfl
  have hk : cut % (n + 1) ≤ n := by have := Nat.mod_lt cut (show 0 < n + 1 by omega); omega
  generalize cut % (n + 1) = k at hmod hk
  have hk0 : (0 : Int) ≤ (k : Int) := by omega
  have hkn : (k : Int) ≤ (n : Int) := by omega
  have hkc : (k : Int) ≤ (c : Int) := by omega
  have hnc : (n : Int) ≤ (c : Int) := by omega
  obtain ⟨v1, r1, hv1, -⟩ := run_subHi (P := Tryd.prog) hu 22 5 Tryd.underlying22 (by kernel_rfl) .i64 k k rfl (by rw [bs_length]; omega)
  obtain ⟨v2, r2, hv2, -⟩ := run_subLo (P := Tryd.prog) hu 22 5 Tryd.underlying22 (by kernel_rfl) .i64 k k rfl (by rw [bs_length]; omega)
  have hv1' : Row W v1 (bs (l.take k)) := by simpa [bs, List.map_take] using hv1
  have hv2' : Row W v2 (bs (l.drop k)) := by simpa [bs, List.map_drop] using hv2
  have e1 : l.take k ++ l.drop k = l := List.take_append_drop k l
  have b1 : (l.take k).length ≤ n := by rw [List.length_take]; omega
  have b2 : (l.drop k).length ≤ n := by rw [List.length_drop]; omega
  clear hv1 hv2
  generalize l.take k = l1 at hv1' e1 b1
  generalize l.drop k = l2 at hv2' e1 b2
  obtain ⟨a1, c1, rfl, -, -, -, -⟩ := id hv1'
  obtain ⟨a2, c2, rfl, -, -, -, -⟩ := id hv2'
  generalize (bs l1).length = n1 at hv1' r1
  generalize (bs l2).length = n2 at hv2' r2
  have HV1 := Lib.hid hv1'
  have HV2 := Lib.hid hv2'
  have HU := Lib.hid hu
  have HN := Lib.hid hn
  have E1 := Lib.hid e1
  have hzv : ∀ w, (zeroValue 25).run Tryd.prog w = .ok (.agg (bs zero32).toArray) w := fun _ => by kernel_rfl
  have HZV := Lib.hid hzv
  have hif : (Tryd.prog.info? 25).map (·.size) = some 32 := by kernel_rfl
  have HIF := Lib.hid hif
  clear hv1' hv2' hu hn e1 hzv hif
  go_enter Tryd.func3, Tryd.ntmps3
  go_wp2_with fail
  refine (macRef_any v (.slice a n c) key l W HV.out hkl HU.out (by have := HN.out; omega) HK.out).mono ?_
  rintro e w1 ⟨rfl, hf1⟩
  have hdl := macSum_length key l
  obtain ⟨D, hD⟩ : ∃ D, D = macSum key l := ⟨_, rfl⟩
  rw [← hD] at hdl ⊢
  have HD := Lib.hid (And.intro hD hdl)
  clear hD hdl
  go_wp2_with ((with_reducible show wpList _ _ _ (({ op := .alloc _, .. } : Oper) :: _) _ _); refine wpList_var rfl rfl 25 8 (.tmp 18) rfl rfl rfl rfl _ (bs D) HZV.out (by rw [bs_length, bs_length, HD.out.2]; rfl) (by rw [bs_length, HD.out.2]; exact HIF.out) (bs_one _) (by simp) (fun _ => rfl) ?_)
  intro w2 hb2 hf2 hs2
  simp only [List.set_cons_succ, List.set_cons_zero]
  obtain ⟨X, hX⟩ : ∃ X, X = w1.heap.size := ⟨_, rfl⟩
  rw [← hX] at hb2 ⊢
  have HB := Lib.hid hb2
  have HF2 := Lib.hid (hf1.non hf2)
  clear hf1 hf2 hs2 hX
  have heq := eqD HD.out.2
  have hS0 : (fun w' : World => w'.rangeAt X 0 (bs D)) w2.drew := hb2.range 0 _ (fun j v hj => by simpa using hj)
  clear hb2
  go_upto_region 3 with (fail)
  have huD := Tryd.underlying25
  have hiD : (Tryd.prog.info? 25).map (·.size) = some (bs D).length := by rw [bs_length, HD.out.2]; exact HIF.out
  refine wp_region_held_drew (S := fun w' => w'.rangeAt X 0 (bs D)) (by kernel_rfl) hS0 (fun hHeld => ?_)
  refine wpAnyH_ready (rs := [0]) (by kernel_rfl) (by simp) ?_
  refine AllReadyH.cons (o := ⟨some 19, _, _, _, _, _⟩) rfl (fun K hK => ?_) AllReadyH.nil
  go_simp
  go_wp2_with (go_at_call 11; refine (shown4_any _ (HT.out.non (HF2.out.non (Fr.drew _)))).mono ?_; rintro e w3 ⟨rfl, hf3⟩)
  have HF3 : Hid (Fr Non w2 w3) := Lib.hid ((Fr.drew _).non hf3)
  clear hf3
  refine hK.out _ _ ((HB.out.non HF3.out).range 0 _ (fun j v hj => by simpa using hj)) (fun hHeld => ?_)
  clear hK K
  refine wpAnyH_takeL (i := 1) 20 (v := ?_) rfl rfl (by kernel_rfl) (by kernel_rfl) (by kernel_rfl) (fun _ _ _ h => h) (by assumption) (Or.inl ⟨by rfl, ?_⟩) ?_
  rotate_left
  · intro w hSw; go_simp; (try with_reducible rfl)
  simp only [List.set_cons_zero, List.set_cons_succ]
  refine wpAnyH_takeL (i := 2) 21 (v := ?_) rfl rfl (by kernel_rfl) (by kernel_rfl) (by kernel_rfl) (fun _ _ _ h => h) (by assumption) (Or.inl ⟨by rfl, ?_⟩) ?_
  rotate_left
  · intro w hSw; go_simp; (try with_reducible rfl)
  simp only [List.set_cons_zero, List.set_cons_succ]
  refine wpAnyH_takeL (i := 3) 22 (v := ?_) rfl rfl (by kernel_rfl) (by kernel_rfl) (by kernel_rfl) (fun _ _ _ h => h) (by assumption) (Or.inl ⟨by rfl, ?_⟩) ?_
  rotate_left
  · intro w hSw; go_simp; (try with_reducible rfl)
  simp only [List.set_cons_zero, List.set_cons_succ]
  refine wpAnyH_takeL (i := 6) 25 (v := .agg (bs D).toArray) rfl rfl (by kernel_rfl) (by kernel_rfl) (by kernel_rfl) (fun _ _ _ h => h) (by assumption) (yieldsIf_load_mid (by rfl) _ _ rfl X (0) rfl (bs D) _ (fun w h => h) huD rfl hiD) ?_
  simp only [List.set_cons_zero, List.set_cons_succ]
  refine wpAnyH_ready (rs := [4]) (by kernel_rfl) (by simp) ?_
  refine AllReadyH.cons (o := ⟨some 23, _, _, _, _, _⟩) rfl (fun K hK => ?_) AllReadyH.nil
  go_simp
  refine hK.out _ _ ((HB.out.non (HF3.out.non (Fr.alloc _ _))).range 0 _ (fun j v hj => by simpa using hj)) (fun hHeld => ?_)
  clear hK K
  refine wpAnyH_ready (rs := [5]) (by kernel_rfl) (by simp) ?_
  refine AllReadyH.cons (o := ⟨some 24, _, _, _, _, _⟩) rfl (fun K hK => ?_) AllReadyH.nil
  go_simp
  go_wp2_with (go_at_call 12; refine (macOp_any v _ key [l] _ (((HV.out.non HF2.out).non HF3.out).non (Fr.alloc _ _)) hkl (Rows2.built (n := 1) (us := [.slice a n c]) rfl rfl (by decide) rfl (all1 ((HU.out.non HF2.out).non HF3.out))) (by have := HN.out; simp; omega) (by have := HN.out; simp; omega) (((HT.out.non HF2.out).non HF3.out).non (Fr.alloc _ _))).mono ?_; rintro e w4 ⟨rfl, hf4⟩)
  rw [← HD.out.1]
  have HF4 : Hid (Fr Non w2 w4) := Lib.hid (HF3.out.non ((Fr.alloc _ _).non hf4))
  clear hf4
  refine hK.out _ _ ((HB.out.non HF4.out).range 0 _ (fun j v hj => by simpa using hj)) (fun hHeld => ?_)
  clear hK K
  refine wpAnyH_takeL (i := 7) 26 (v := ?_) rfl rfl (by kernel_rfl) (by kernel_rfl) (by kernel_rfl) (fun _ _ _ h => h) (by assumption) (Or.inl ⟨by rfl, ?_⟩) ?_
  rotate_left
  · intro w hSw; go_simp; (try with_reducible rfl)
  simp only [List.set_cons_zero, List.set_cons_succ]
  refine wpAnyH_takeL (i := 8) 27 (v := ?_) rfl rfl (by kernel_rfl) (by kernel_rfl) (by kernel_rfl) (fun _ _ _ h => h) (by assumption) (Or.inl ⟨by rfl, ?_⟩) ?_
  rotate_left
  · intro w hSw; go_simp; (try with_reducible rfl)
  simp only [List.set_cons_zero, List.set_cons_succ]
  refine wpAnyH_takeL (i := 9) 28 (v := ?_) rfl rfl (by kernel_rfl) (by kernel_rfl) (by kernel_rfl) (fun _ _ _ h => h) (by assumption) (Or.inl ⟨by rfl, ?_⟩) ?_
  rotate_left
  · intro w hSw; go_simp; (try with_reducible rfl)
  simp only [List.set_cons_zero, List.set_cons_succ]
  refine wpAnyH_takeL (i := 10) 29 (v := ?_) rfl rfl (by kernel_rfl) (by kernel_rfl) (by kernel_rfl) (fun _ _ _ h => h) (by assumption) (Or.inl ⟨by rfl, ?_⟩) ?_
  rotate_left
  · intro w hSw; go_simp; (try with_reducible rfl)
  simp only [List.set_cons_zero, List.set_cons_succ]
  refine wpAnyH_takeL (i := 11) 30 (v := ?_) rfl rfl (by kernel_rfl) (by kernel_rfl) (by kernel_rfl) (fun _ _ _ h => h) (by assumption) (Or.inl ⟨by rfl, ?_⟩) ?_
  rotate_left
  · intro w hSw; go_simp; (try with_reducible rfl)
  simp only [List.set_cons_zero, List.set_cons_succ]
  refine wpAnyH_takeL (i := 12) 31 (v := ?_) rfl rfl (by kernel_rfl) (by kernel_rfl) (by kernel_rfl) (fun _ _ _ h => h) (by assumption) (Or.inl ⟨by rfl, ?_⟩) ?_
  rotate_left
  · intro w hSw; go_simp; (try with_reducible rfl)
  simp only [List.set_cons_zero, List.set_cons_succ]
  refine wpAnyH_takeL (i := 13) 32 (v := ?_) rfl rfl (by kernel_rfl) (by kernel_rfl) (by kernel_rfl) (fun _ _ _ h => h) (by assumption) (Or.inl ⟨by rfl, ?_⟩) ?_
  rotate_left
  · intro w hSw; go_simp; (try with_reducible rfl)
  simp only [List.set_cons_zero, List.set_cons_succ]
  refine wpAnyH_takeL (i := 14) 33 (v := ?_) rfl rfl (by kernel_rfl) (by kernel_rfl) (by kernel_rfl) (fun _ _ _ h => h) (by assumption) (Or.inl ⟨by rfl, ?_⟩) ?_
  rotate_left
  · intro w hSw; go_simp; (try with_reducible rfl)
  simp only [List.set_cons_zero, List.set_cons_succ]
  refine wpAnyH_takeL (i := 15) 34 (v := ?_) rfl rfl (by kernel_rfl) (by kernel_rfl) (by kernel_rfl) (fun _ _ _ h => h) (by assumption) (Or.inl ⟨by rfl, ?_⟩) ?_
  rotate_left
  · intro w hSw; go_simp; (try with_reducible rfl)
  simp only [List.set_cons_zero, List.set_cons_succ]
  refine wpAnyH_takeL (i := 16) 35 (v := ?_) rfl rfl (by kernel_rfl) (by kernel_rfl) (by kernel_rfl) (fun _ _ _ h => h) (by assumption) (Or.inl ⟨by rfl, ?_⟩) ?_
  rotate_left
  · intro w hSw; go_simp; (try with_reducible rfl)
  simp only [List.set_cons_zero, List.set_cons_succ]
  refine wpAnyH_takeL (i := 19) 38 (v := .agg (bs D).toArray) rfl rfl (by kernel_rfl) (by kernel_rfl) (by kernel_rfl) (fun _ _ _ h => h) (by assumption) (yieldsIf_load_mid (by rfl) _ _ rfl X (0) rfl (bs D) _ (fun w h => h) huD rfl hiD) ?_
  simp only [List.set_cons_zero, List.set_cons_succ]
  refine wpAnyH_ready (rs := [17]) (by kernel_rfl) (by simp) ?_
  refine AllReadyH.cons (o := ⟨some 36, _, _, _, _, _⟩) rfl (fun K hK => ?_) AllReadyH.nil
  go_simp
  refine hK.out _ _ ((HB.out.non (HF4.out.non (Fr.alloc _ _))).range 0 _ (fun j v hj => by simpa using hj)) (fun hHeld => ?_)
  clear hK K
  refine wpAnyH_ready (rs := [18]) (by kernel_rfl) (by simp) ?_
  refine AllReadyH.cons (o := ⟨some 37, _, _, _, _, _⟩) rfl (fun K hK => ?_) AllReadyH.nil
  go_simp
  go_wp2_with (go_at_call 12; refine (macOp_any v _ key [l1, [], l2] _ (((HV.out.non HF2.out).non HF4.out).non (Fr.alloc _ _)) hkl (Rows2.built (n := 3) (us := [.slice a1 n1 c1, .slice none 0 0, .slice a2 n2 c2]) rfl rfl (by decide) rfl (all3 ((HV1.out.non HF2.out).non HF4.out) (Row.nil _) ((HV2.out.non HF2.out).non HF4.out))) (by simp; omega) (by simp; omega) (((HT.out.non HF2.out).non HF4.out).non (Fr.alloc _ _))).mono ?_; rintro e w5 ⟨rfl, hf5⟩)
  rw [E1.out, ← HD.out.1]
  have HF5 : Hid (Fr Non w2 w5) := Lib.hid (HF4.out.non ((Fr.alloc _ _).non hf5))
  clear hf5
  refine hK.out _ _ ((HB.out.non HF5.out).range 0 _ (fun j v hj => by simpa using hj)) (fun hHeld => ?_)
  clear hK K
  refine wpAnyH_takeL (i := 20) 39 (v := ?_) rfl rfl (by kernel_rfl) (by kernel_rfl) (by kernel_rfl) (fun _ _ _ h => h) (by assumption) (Or.inl ⟨by rfl, ?_⟩) ?_
  rotate_left
  · intro w hSw; go_simp; (try with_reducible rfl)
  simp only [List.set_cons_zero, List.set_cons_succ]
  refine wpAnyH_takeL (i := 21) 40 (v := ?_) rfl rfl (by kernel_rfl) (by kernel_rfl) (by kernel_rfl) (fun _ _ _ h => h) (by assumption) (Or.inl ⟨by rfl, ?_⟩) ?_
  rotate_left
  · intro w hSw; go_simp; (try with_reducible rfl)
  simp only [List.set_cons_zero, List.set_cons_succ]
  refine wpAnyH_takeL (i := 22) 41 (v := ?_) rfl rfl (by kernel_rfl) (by kernel_rfl) (by kernel_rfl) (fun _ _ _ h => h) (by assumption) (Or.inl ⟨by rfl, ?_⟩) ?_
  rotate_left
  · intro w hSw; go_simp; (try with_reducible rfl)
  simp only [List.set_cons_zero, List.set_cons_succ]
  refine wpAnyH_takeL (i := 23) 42 (v := ?_) rfl rfl (by kernel_rfl) (by kernel_rfl) (by kernel_rfl) (fun _ _ _ h => h) (by assumption) (Or.inl ⟨by rfl, ?_⟩) ?_
  rotate_left
  · intro w hSw; go_simp; (try with_reducible rfl)
  simp only [List.set_cons_zero, List.set_cons_succ]
  refine wpAnyH_takeL (i := 24) 43 (v := ?_) rfl rfl (by kernel_rfl) (by kernel_rfl) (by kernel_rfl) (fun _ _ _ h => h) (by assumption) (Or.inl ⟨by rfl, ?_⟩) ?_
  rotate_left
  · intro w hSw; go_simp; (try with_reducible rfl)
  simp only [List.set_cons_zero, List.set_cons_succ]
  refine wpAnyH_takeL (i := 26) 45 (v := .agg (bs D).toArray) rfl rfl (by kernel_rfl) (by kernel_rfl) (by kernel_rfl) (fun _ _ _ h => h) (by assumption) (yieldsIf_load_mid (by rfl) _ _ rfl X (0) rfl (bs D) _ (fun w h => h) huD rfl hiD) ?_
  simp only [List.set_cons_zero, List.set_cons_succ]
  refine wpAnyH_ready (rs := [25]) (by kernel_rfl) (by simp) ?_
  refine AllReadyH.cons (o := ⟨some 44, _, _, _, _, _⟩) rfl (fun K hK => ?_) AllReadyH.nil
  go_simp
  go_wp2_with (go_at_call 13; refine (extract_any v _ key l _ ((HV.out.non HF2.out).non HF5.out) hkl ((HU.out.non HF2.out).non HF5.out) (by have := HN.out; omega) ((HT.out.non HF2.out).non HF5.out)).mono ?_; rintro e w6 ⟨rfl, hf6⟩)
  rw [← HD.out.1]
  have HF6 : Hid (Fr Non w2 w6) := Lib.hid (HF5.out.non hf6)
  clear hf6
  refine hK.out _ _ ((HB.out.non HF6.out).range 0 _ (fun j v hj => by simpa using hj)) (fun hHeld => ?_)
  clear hK K
  refine wpAnyH_takeL (i := 27) 46 (v := ?_) rfl rfl (by kernel_rfl) (by kernel_rfl) (by kernel_rfl) (fun _ _ _ h => h) (by assumption) (Or.inl ⟨by rfl, ?_⟩) ?_
  rotate_left
  · intro w hSw; go_simp; (try with_reducible rfl)
  simp only [List.set_cons_zero, List.set_cons_succ]
  refine wpAnyH_takeL (i := 28) 47 (v := ?_) rfl rfl (by kernel_rfl) (by kernel_rfl) (by kernel_rfl) (fun _ _ _ h => h) (by assumption) (Or.inl ⟨by rfl, ?_⟩) ?_
  rotate_left
  · intro w hSw; go_simp; (try with_reducible rfl)
  simp only [List.set_cons_zero, List.set_cons_succ]
  refine wpAnyH_takeL (i := 29) 6 (v := ?_) rfl rfl (by kernel_rfl) (by kernel_rfl) (by kernel_rfl) (fun _ _ _ h => h) (by assumption) (Or.inl ⟨by rfl, ?_⟩) ?_
  rotate_left
  · intro w hSw; go_simp; (try with_reducible rfl)
  simp only [List.set_cons_zero, List.set_cons_succ]
  refine wpAnyH_done (by kernel_rfl) ?_ _
  go_wp2_with fail
  go_ret
  exact ⟨rfl, HF2.out.non HF6.out⟩
end Go.Proofs.YtajknmapggkmnaaDoor
