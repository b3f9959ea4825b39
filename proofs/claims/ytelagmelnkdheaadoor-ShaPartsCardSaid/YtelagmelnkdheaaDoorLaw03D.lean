/- layer 3: the digest hangs on the bytes alone -/
import Derived.Test.YtelagmelnkdheaaDoorShaC
import Derived.Test.YtelagmelnkdheaaDoorLaw03B
import Derived.Test.YtelagmelnkdheaaDoorHeld
namespace Go.Proofs.YtelagmelnkdheaaDoor
open Go.ChangeShapes Go.WideShapes Go.ChangeAt Go.RowKit
variable {T : World → Prop} {SS : (Nat → Prop) → World → Addr → List UInt8 → Prop} {Bl Bm : Nat}

set_option maxRecDepth 100000 in
set_option maxHeartbeats 4000000 in
/-- P3.3 -/
theorem parts3w (C : ShaC T SS Bl Bm) (hshown : ∀ w, T w → Calls Tryd.prog 8 #[] w fun e w' => e = .returned (.bool true) ∧ Fr Non w w')
    (W : World) (v : Value) (l : List UInt8) (cut : Nat) (hT : T W) (hv : Row W v (bs l)) (hl : l.length ≤ 140737488351232) (_ : (cut : Int) ≤ IntKind.u64.max) (hb1 : l.length ≤ Bl) (hb2 : l.length ≤ Bm) :
    Calls Tryd.prog 5 #[v, .int .u64 cut] W fun e w' => e = .returned (.bool true) ∧ Fr Non W w' := by
  obtain ⟨a, c, rfl, q1, q2, q3, q4⟩ := id hv
  rw [bs_length] at *
  clear q4 q3
  obtain ⟨n, hn⟩ : ∃ n, n = l.length := ⟨_, rfl⟩
  rw [← hn] at hv hl q1 hb1 hb2 ⊢
  unfold maxLen at q2
  have hmod : (cut : Int) % ((n : Int) + 1) = ((cut % (n + 1) : Nat) : Int) := by push_cast; rfl
  have hk : cut % (n + 1) ≤ n := by have := Nat.mod_lt cut (show 0 < n + 1 by omega); omega
  generalize cut % (n + 1) = k at hmod hk
  have hk0 : (0 : Int) ≤ (k : Int) := by omega
  have hkn : (k : Int) ≤ (n : Int) := by omega
  have hkc : (k : Int) ≤ (c : Int) := by omega
  have hnc : (n : Int) ≤ (c : Int) := by omega
  obtain ⟨v1, r1, hv1, -⟩ := run_subHi (P := Tryd.prog) hv 22 5 Tryd.underlying22 (by kernel_rfl) .i64 k k rfl (by rw [bs_length]; omega)
  obtain ⟨v2, r2, hv2, -⟩ := run_subLo (P := Tryd.prog) hv 22 5 Tryd.underlying22 (by kernel_rfl) .i64 k k rfl (by rw [bs_length]; omega)
  have hv1' : Row W v1 (bs (l.take k)) := by simpa [bs, List.map_take] using hv1
  have hv2' : Row W v2 (bs (l.drop k)) := by simpa [bs, List.map_drop] using hv2
  have e1 : l.take k ++ l.drop k = l := List.take_append_drop k l
  have b1 : (l.take k).length ≤ n := by rw [List.length_take]; omega
  have b2 : (l.drop k).length ≤ n := by rw [List.length_drop]; omega
  clear hv1 hv2
  generalize l.take k = l1 at hv1' e1 b1
  generalize l.drop k = l2 at hv2' e1 b2
  obtain ⟨a1, c1, rfl, -, -, -, -⟩ := id hv1'
  obtain ⟨a2, c2, rfl, -, -, -, -⟩ := id hv2'
  generalize (bs l1).length = n1 at hv1' r1
  generalize (bs l2).length = n2 at hv2' r2
  have heq := eqDigest_same l
  have heq1 := eqDigest_same l1
  have hN : ((l.length : Nat) : Int) = (n : Int) := by omega
  have HC := Lib.hid C
  have HT := Lib.hid hT
  have HSH := Lib.hid hshown
  have HV := Lib.hid hv
  have HV1 := Lib.hid hv1'
  have HV2 := Lib.hid hv2'
  have HN := Lib.hid hn
  have HNI := Lib.hid hN
  have E1 := Lib.hid e1
  clear C hT hshown hv hv1' hv2' hn hN e1
  go_enter Tryd.func5, Tryd.ntmps5
  go_wp2_with fail
  refine (HC.out.new HT.out).mono ?_
  rintro e w1 ⟨p, O, rfl, hs1, hO, hf1⟩
  go_wp2_with fail
  refine (HC.out.new (HC.out.tf HT.out hf1)).mono ?_
  rintro e w2 ⟨p', O', rfl, ht2, hO', hf2⟩
  have hs2 := HC.out.sf hs1 hf2 (fun _ h => h.elim)
  have hOO : ∀ i, O i → ¬ O' i := fun i h h2 => by have := HC.out.lt hs1 i h; have := hO' i h2; omega
  have hfW2 : Fr Non W w2 := hf1.non hf2
  go_wp2_with fail
  refine (HC.out.write (HC.out.tf HT.out hfW2) hs2 (HV1.out.non hfW2) (fun hn => HV1.out.offNew hO hn) (by simp) (by omega)).mono ?_
  rintro e w3 ⟨rfl, O3, hs3, hO3, hf3⟩
  have hfW3 : Fr Non W w3 := hfW2.new hf3 (fun i h => hO i h)
  have ht3 := HC.out.sf ht2 hf3 hOO
  have hOO3 : ∀ i, O3 i → ¬ O' i := fun i h h2 => by
    rcases hO3 i h with h3 | h3
    · exact hOO i h3 h2
    · have := HC.out.lt ht2 i h2; omega
  have hO3W : ∀ i, O3 i → W.heap.size ≤ i := fun i h => by
    rcases hO3 i h with h3 | h3
    · exact hO i h3
    · exact Nat.le_trans hfW2.size h3
  clear hs1 hs2 ht2 hO3 hf3
  rw [List.nil_append] at hs3
  go_wp2_with fail
  refine (HC.out.sum (HC.out.tf HT.out hfW3) hs3).mono ?_
  rintro e w4 ⟨rfl, hf4⟩
  dsimp only
  iterate 4 (first | go_values | go_skip | go_guarded | go_step | go_upon | go_back)
  have ht4 := there_new w4 _ rfl
  have hfa := Fr.alloc w4 (.cells #[.int .u8 0, .int .u8 0, .int .u8 0, .int .u8 0, .int .u8 0, .int .u8 0, .int .u8 0, .int .u8 0, .int .u8 0, .int .u8 0, .int .u8 0, .int .u8 0, .int .u8 0, .int .u8 0, .int .u8 0, .int .u8 0, .int .u8 0, .int .u8 0, .int .u8 0, .int .u8 0, .int .u8 0, .int .u8 0, .int .u8 0, .int .u8 0, .int .u8 0, .int .u8 0, .int .u8 0, .int .u8 0, .int .u8 0, .int .u8 0, .int .u8 0, .int .u8 0] 25)
  generalize w4.alloc (.cells #[.int .u8 0, .int .u8 0, .int .u8 0, .int .u8 0, .int .u8 0, .int .u8 0, .int .u8 0, .int .u8 0, .int .u8 0, .int .u8 0, .int .u8 0, .int .u8 0, .int .u8 0, .int .u8 0, .int .u8 0, .int .u8 0, .int .u8 0, .int .u8 0, .int .u8 0, .int .u8 0, .int .u8 0, .int .u8 0, .int .u8 0, .int .u8 0, .int .u8 0, .int .u8 0, .int .u8 0, .int .u8 0, .int .u8 0, .int .u8 0, .int .u8 0, .int .u8 0] 25) = w5 at ht4 hfa ⊢
  refine wpList_store_mid rfl _ _ _ rfl w4.heap.size 0 (bs (sha l1)).toArray rfl rfl (by rw [sizeD]; exact ht4) (by rw [sizeD]; kernel_rfl) (oneD _) ?_
  have hrg := World.rangeAt_setCells_same w5 w4.heap.size 0 (bs (sha l1)) (by rw [bs_length, sha_length]; exact ht4)
  have hfs : Fr (One w4.heap.size) w5 (w5.setCells w4.heap.size 0 (bs (sha l1)).toArray.toList) := Fr.setCells _ _ _ _
  rw [show (bs (sha l1)).toArray.toList = bs (sha l1) by simp] at hfs ⊢
  generalize w5.setCells w4.heap.size 0 (bs (sha l1)) = w6 at hrg hfs ⊢
  have hf36 : Fr Non w3 w6 := (hf4.non hfa).new hfs (fun i h => by have h1 : i = w4.heap.size := h; have := hf4.size; omega)
  have hfW6 : Fr Non W w6 := hfW3.non hf36
  have hs6 := HC.out.sf hs3 hf36 (fun _ h => h.elim)
  have ht6 := HC.out.sf ht3 hf36 (fun _ h => h.elim)
  obtain ⟨D, hD⟩ : ∃ D, D = w4.heap.size := ⟨_, rfl⟩
  rw [← hD] at hrg ⊢
  have hDO : ∀ i, O3 i → i < D := fun i h => by have := HC.out.lt hs3 i h; have := hf4.size; omega
  have hDO' : ∀ i, O' i → i < D := fun i h => by have := HC.out.lt ht3 i h; have := hf4.size; omega
  clear hs3 ht3 hfs hfa ht4 hf4 hf36 hD
  go_wp2_with fail
  refine (HC.out.write (HC.out.tf HT.out hfW6) hs6 (HV2.out.non hfW6) (fun hn => HV2.out.offNew hO3W hn) (by omega) (by omega)).mono ?_
  rintro e w7 ⟨rfl, O7, hs7, hO7, hf7⟩
  have hfW7 : Fr Non W w7 := hfW6.new hf7 (fun i h => hO3W i h)
  have ht7 := HC.out.sf ht6 hf7 hOO3
  have hrg7 := hf7.range hrg (fun h => by have := hDO _ h; omega)
  have hO'W : ∀ i, O' i → W.heap.size ≤ i := fun i h => Nat.le_trans hf1.size (hO' i h)
  have h7O : ∀ i, O' i → ¬ O7 i := fun i h h2 => by
    rcases hO7 i h2 with h3 | h3
    · exact hOO3 i h3 h
    · have := HC.out.lt ht6 i h; omega
  rw [E1.out] at hs7
  clear hrg ht6 hs6 hf7 hO7
  go_wp2_with fail
  refine (HC.out.write (HC.out.tf HT.out hfW7) ht7 (HV.out.non hfW7) (fun hn => HV.out.offNew hO'W hn) (by simp) (by have := HN.out; omega)).mono ?_
  rintro e w8 ⟨rfl, O8, ht8, hO8, hf8⟩
  have hfW8 : Fr Non W w8 := hfW7.new hf8 (fun i h => hO'W i h)
  have hs8 := HC.out.sf hs7 hf8 h7O
  have hrg8 := hf8.range hrg7 (fun h => by have := hDO' _ h; omega)
  rw [List.nil_append] at ht8
  have hT8 := HC.out.tf HT.out hfW8
  have HT8 := Lib.hid hT8
  have HS8 := Lib.hid hs8
  have HT9 := Lib.hid ht8
  have HRG := Lib.hid hrg8
  have HB1 := Lib.hid hb1
  have HB2 := Lib.hid hb2
  clear hs7 ht7 hO8 hf8 hT8 hs8 ht8 hrg8 hrg7 hfW2 hfW3 hfW6 hfW7 hO hO' hOO hOO3 hO3W hDO hDO' hO'W h7O hf1 hf2
  have hu := Tryd.underlying25
  have hinf : (Tryd.prog.info? 25).map (·.size) = some (bs (sha l1)).length := by rw [bs_length, sha_length]; kernel_rfl
  have HRa := Lib.hid (HV.out.non hfW8)
  have HR1 := Lib.hid (HV1.out.non hfW8)
  have HR2 := Lib.hid (HV2.out.non hfW8)
  have F1 : Hid ([l].flatten = l) := Lib.hid (by simp)
  have F2 : Hid ([l1].flatten = l1) := Lib.hid (by simp)
  have F3 : Hid ([l1, [], l2].flatten = l) := Lib.hid (by simpa using E1.out)
  have M1 : Hid ([l].flatten.length ≤ Bl ∧ ∀ x ∈ [l], x.length ≤ Bm) := Lib.hid ⟨by rw [F1.out, ← HN.out]; exact HB1.out, by intro x hx; simp at hx; subst hx; rw [← HN.out]; exact HB2.out⟩
  have M2 : Hid ([l1].flatten.length ≤ Bl ∧ ∀ x ∈ [l1], x.length ≤ Bm) := Lib.hid ⟨by rw [F2.out]; exact Nat.le_trans b1 HB1.out, by intro x hx; simp at hx; subst hx; exact Nat.le_trans b1 HB2.out⟩
  have M3 : Hid ([l1, [], l2].flatten.length ≤ Bl ∧ ∀ x ∈ [l1, [], l2], x.length ≤ Bm) := Lib.hid ⟨by rw [F3.out, ← HN.out]; exact HB1.out, by
    intro x hx
    simp at hx
    rcases hx with rfl | rfl | rfl
    · exact Nat.le_trans b1 HB2.out
    · simp
    · exact Nat.le_trans b2 HB2.out⟩
  have hnn : ((n : Int) == (n : Int)) = true := by simp
  clear b1 b2
  go_wp2_with fail
  refine wp_region_held_drew (S := (fun w' => w'.rangeAt D 0 (bs (sha l1)))) (by kernel_rfl) ?_ (fun hHeld => ?_)
  · exact Fr.range (S := Non) (a := w8) (by (with_reducible (repeat (first | assumption | exact Fr.refl _ _ | refine Fr.toAlloc ?_ _ | refine Fr.toDrew ?_)))) HRG.out (fun h => h)
  refine wpAnyH_ready (rs := [0]) (by decide +kernel) (by simp) ?_
  refine (AllReadyH.cons (o := ⟨some 39, _, _, _, _, _⟩) rfl (fun K hK => ?_) AllReadyH.nil)
  go_simp
  go_wp2_with ((go_at_call 8; refine (HSH.out _ (HC.out.tf HT8.out (by (with_reducible (repeat (first | assumption | exact Fr.refl _ _ | refine Fr.toAlloc ?_ _ | refine Fr.toDrew ?_)))))).mono ?_; rintro e wn ⟨rfl, hff⟩; have hfn := Fr.non (a := w8) (by (with_reducible (repeat (first | assumption | exact Fr.refl _ _ | refine Fr.toAlloc ?_ _ | refine Fr.toDrew ?_)))) hff; have hfp := hff; clear hff))
  refine hK.out _ _ (by exact Fr.range (S := Non) (a := w8) (by (with_reducible (repeat (first | assumption | exact Fr.refl _ _ | refine Fr.toAlloc ?_ _ | refine Fr.toDrew ?_)))) HRG.out (fun h => h)) (fun hHeld => ?_)
  clear hK K
  refine wpAnyH_takeL (i := 1) 40 (v := ?_) rfl rfl (by kernel_rfl) (by decide +kernel) (by decide +kernel) (fun _ _ _ h => h) (by assumption) (Or.inl ⟨by rfl, ?_⟩) ?_
  rotate_left
  · intro w hSw; go_simp; (try with_reducible rfl)
  simp only [List.set_cons_zero, List.set_cons_succ]
  refine wpAnyH_takeL (i := 2) 41 (v := ?_) rfl rfl (by kernel_rfl) (by decide +kernel) (by decide +kernel) (fun _ _ _ h => h) (by assumption) (Or.inl ⟨by rfl, ?_⟩) ?_
  rotate_left
  · intro w hSw; go_simp; (try with_reducible rfl)
  simp only [List.set_cons_zero, List.set_cons_succ]
  refine wpAnyH_takeL (i := 4) 43 (v := ?_) rfl rfl (by kernel_rfl) (by decide +kernel) (by decide +kernel) (fun _ _ _ h => h) (by assumption) (Or.inl ⟨by rfl, ?_⟩) ?_
  rotate_left
  · intro w hSw; go_simp; (try with_reducible rfl)
  simp only [List.set_cons_zero, List.set_cons_succ]
  refine wpAnyH_ready (rs := [3]) (by decide +kernel) (by simp) ?_
  refine (AllReadyH.cons (o := ⟨some 42, _, _, _, _, _⟩) rfl (fun K hK => ?_) AllReadyH.nil)
  go_simp
  go_wp2_with ((go_at_call_of 13 (Value.pointer (some p)); refine (HC.out.sum (HC.out.tf HT8.out (by (with_reducible (repeat (first | assumption | exact Fr.refl _ _ | refine Fr.toAlloc ?_ _ | refine Fr.toDrew ?_))))) (HC.out.sf HS8.out (w := w8) (S := Non) (by (with_reducible (repeat (first | assumption | exact Fr.refl _ _ | refine Fr.toAlloc ?_ _ | refine Fr.toDrew ?_)))) (fun _ h => h.elim))).mono ?_; rintro e wn ⟨rfl, hff⟩; have hfn := Fr.non (a := w8) (by (with_reducible (repeat (first | assumption | exact Fr.refl _ _ | refine Fr.toAlloc ?_ _ | refine Fr.toDrew ?_)))) hff; have hfp := hff; clear hff))
  refine hK.out _ _ (by exact Fr.range (S := Non) (a := w8) (by (with_reducible (repeat (first | assumption | exact Fr.refl _ _ | refine Fr.toAlloc ?_ _ | refine Fr.toDrew ?_)))) HRG.out (fun h => h)) (fun hHeld => ?_)
  clear hK K
  refine wpAnyH_ready (rs := [5]) (by decide +kernel) (by simp) ?_
  refine (AllReadyH.cons (o := ⟨some 44, _, _, _, _, _⟩) rfl (fun K hK => ?_) AllReadyH.nil)
  go_simp
  go_wp2_with ((go_at_call_of 13 (Value.pointer (some p')); refine (HC.out.sum (HC.out.tf HT8.out (by (with_reducible (repeat (first | assumption | exact Fr.refl _ _ | refine Fr.toAlloc ?_ _ | refine Fr.toDrew ?_))))) (HC.out.sf HT9.out (w := w8) (S := Non) (by (with_reducible (repeat (first | assumption | exact Fr.refl _ _ | refine Fr.toAlloc ?_ _ | refine Fr.toDrew ?_)))) (fun _ h => h.elim))).mono ?_; rintro e wn ⟨rfl, hff⟩; have hfn := Fr.non (a := w8) (by (with_reducible (repeat (first | assumption | exact Fr.refl _ _ | refine Fr.toAlloc ?_ _ | refine Fr.toDrew ?_)))) hff; have hfp := hff; clear hff))
  refine hK.out _ _ (by exact Fr.range (S := Non) (a := w8) (by (with_reducible (repeat (first | assumption | exact Fr.refl _ _ | refine Fr.toAlloc ?_ _ | refine Fr.toDrew ?_)))) HRG.out (fun h => h)) (fun hHeld => ?_)
  clear hK K
  refine wpAnyH_takeL (i := 6) 45 (v := ?_) rfl rfl (by kernel_rfl) (by decide +kernel) (by decide +kernel) (fun _ _ _ h => h) (by assumption) (Or.inl ⟨by rfl, ?_⟩) ?_
  rotate_left
  · intro w hSw; go_simp; (try with_reducible rfl)
  simp only [List.set_cons_zero, List.set_cons_succ]
  refine wpAnyH_takeL (i := 7) 46 (v := ?_) rfl rfl (by kernel_rfl) (by decide +kernel) (by decide +kernel) (fun _ _ _ h => h) (by assumption) (Or.inl ⟨by rfl, ?_⟩) ?_
  rotate_left
  · intro w hSw; go_simp; (try with_reducible rfl)
  simp only [List.set_cons_zero, List.set_cons_succ]
  refine wpAnyH_takeL (i := 8) 47 (v := ?_) rfl rfl (by kernel_rfl) (by decide +kernel) (by decide +kernel) (fun _ _ _ h => h) (by assumption) (Or.inl ⟨by rfl, ?_⟩) ?_
  rotate_left
  · intro w hSw; go_simp; (try with_reducible rfl)
  simp only [List.set_cons_zero, List.set_cons_succ]
  refine wpAnyH_takeL (i := 9) 48 (v := ?_) rfl rfl (by kernel_rfl) (by decide +kernel) (by decide +kernel) (fun _ _ _ h => h) (by assumption) (Or.inl ⟨by rfl, ?_⟩) ?_
  rotate_left
  · intro w hSw; go_simp; (try with_reducible rfl)
  simp only [List.set_cons_zero, List.set_cons_succ]
  refine wpAnyH_takeL (i := 11) 50 (v := ?_) rfl rfl (by kernel_rfl) (by decide +kernel) (by decide +kernel) (fun _ _ _ h => h) (by assumption) (Or.inl ⟨by rfl, ?_⟩) ?_
  rotate_left
  · intro w hSw; go_simp; (try with_reducible rfl)
  simp only [List.set_cons_zero, List.set_cons_succ]
  refine wpAnyH_ready (rs := [10, 12]) (by decide +kernel) (by simp) ?_
  refine (AllReadyH.cons (o := ⟨some 49, _, _, _, _, _⟩) rfl (fun K hK => ?_) (AllReadyH.cons (o := ⟨some 51, _, _, _, _, _⟩) rfl (fun K hK => ?_) AllReadyH.nil))
  · skip
    go_simp
    go_wp2_with ((go_at_call_of 13 (Value.pointer (some p)); refine (HC.out.sum (HC.out.tf HT8.out (by (with_reducible (repeat (first | assumption | exact Fr.refl _ _ | refine Fr.toAlloc ?_ _ | refine Fr.toDrew ?_))))) (HC.out.sf HS8.out (w := w8) (S := Non) (by (with_reducible (repeat (first | assumption | exact Fr.refl _ _ | refine Fr.toAlloc ?_ _ | refine Fr.toDrew ?_)))) (fun _ h => h.elim))).mono ?_; rintro e wn ⟨rfl, hff⟩; have hfn := Fr.non (a := w8) (by (with_reducible (repeat (first | assumption | exact Fr.refl _ _ | refine Fr.toAlloc ?_ _ | refine Fr.toDrew ?_)))) hff; have hfp := hff; clear hff))
    refine hK.out _ _ (by exact Fr.range (S := Non) (a := w8) (by (with_reducible (repeat (first | assumption | exact Fr.refl _ _ | refine Fr.toAlloc ?_ _ | refine Fr.toDrew ?_)))) HRG.out (fun h => h)) (fun hHeld => ?_)
    clear hK K
    refine wpAnyH_ready (rs := [12]) (by decide +kernel) (by simp) ?_
    refine (AllReadyH.cons (o := ⟨some 51, _, _, _, _, _⟩) rfl (fun K hK => ?_) AllReadyH.nil)
    go_simp
    refine hK.out _ _ (by exact Fr.range (S := Non) (a := w8) (by (with_reducible (repeat (first | assumption | exact Fr.refl _ _ | refine Fr.toAlloc ?_ _ | refine Fr.toDrew ?_)))) HRG.out (fun h => h)) (fun hHeld => ?_)
    clear hK K
    refine wpAnyH_ready (rs := [13]) (by decide +kernel) (by simp) ?_
    refine (AllReadyH.cons (o := ⟨some 52, _, _, _, _, _⟩) rfl (fun K hK => ?_) AllReadyH.nil)
    go_simp
    go_wp2_with ((go_at_call 9; (with_reducible show Calls _ _ #[Value.slice _ 1 1] _ _); refine (HC.out.all (ls := [l]) (HC.out.tf HT8.out (by (with_reducible (repeat (first | assumption | exact Fr.refl _ _ | refine Fr.toAlloc ?_ _ | refine Fr.toDrew ?_))))) ?_ M1.out.1 M1.out.2).mono ?_; (focus (repeat (first | ((with_reducible refine Rows2.built (ls := [l]) (n := 1) (us := [.slice a n c]) ?_ ?_ ?_ ?_ ?_); (focus simp); (focus rfl); (focus decide); (focus rfl); (focus exact (all1 (HRa.out.non (by (with_reducible (repeat (first | assumption | exact Fr.refl _ _ | refine Fr.toAlloc ?_ _ | refine Fr.toDrew ?_)))))))) | (with_reducible refine Rows2.toAlloc ?_ _) | (with_reducible refine Rows2.toDrew ?_) | (with_reducible refine Rows2.frame ?_ (by assumption))))); rintro e wn ⟨rfl, hff⟩; have hfn := Fr.non (a := w8) (by (with_reducible (repeat (first | assumption | exact Fr.refl _ _ | refine Fr.toAlloc ?_ _ | refine Fr.toDrew ?_)))) hff; have hfp := hff; clear hff; rw [F1.out]))
    refine hK.out _ _ (by exact Fr.range (S := Non) (a := w8) (by (with_reducible (repeat (first | assumption | exact Fr.refl _ _ | refine Fr.toAlloc ?_ _ | refine Fr.toDrew ?_)))) HRG.out (fun h => h)) (fun hHeld => ?_)
    clear hK K
    refine wpAnyH_takeL (i := 14) 53 (v := ?_) rfl rfl (by kernel_rfl) (by decide +kernel) (by decide +kernel) (fun _ _ _ h => h) (by assumption) (Or.inl ⟨by rfl, ?_⟩) ?_
    rotate_left
    · intro w hSw; go_simp; (try with_reducible rfl)
    simp only [List.set_cons_zero, List.set_cons_succ]
    refine wpAnyH_takeL (i := 15) 54 (v := ?_) rfl rfl (by kernel_rfl) (by decide +kernel) (by decide +kernel) (fun _ _ _ h => h) (by assumption) (Or.inl ⟨by rfl, ?_⟩) ?_
    rotate_left
    · intro w hSw; go_simp; (try with_reducible rfl)
    simp only [List.set_cons_zero, List.set_cons_succ]
    refine wpAnyH_takeL (i := 16) 55 (v := ?_) rfl rfl (by kernel_rfl) (by decide +kernel) (by decide +kernel) (fun _ _ _ h => h) (by assumption) (Or.inl ⟨by rfl, ?_⟩) ?_
    rotate_left
    · intro w hSw; go_simp; (try with_reducible rfl)
    simp only [List.set_cons_zero, List.set_cons_succ]
    refine wpAnyH_takeL (i := 17) 56 (v := ?_) rfl rfl (by kernel_rfl) (by decide +kernel) (by decide +kernel) (fun _ _ _ h => h) (by assumption) (Or.inl ⟨by rfl, ?_⟩) ?_
    rotate_left
    · intro w hSw; go_simp; (try with_reducible rfl)
    simp only [List.set_cons_zero, List.set_cons_succ]
    refine wpAnyH_takeL (i := 18) 57 (v := ?_) rfl rfl (by kernel_rfl) (by decide +kernel) (by decide +kernel) (fun _ _ _ h => h) (by assumption) (Or.inl ⟨by rfl, ?_⟩) ?_
    rotate_left
    · intro w hSw; go_simp; (try with_reducible rfl)
    simp only [List.set_cons_zero, List.set_cons_succ]
    refine wpAnyH_takeL (i := 19) 58 (v := ?_) rfl rfl (by kernel_rfl) (by decide +kernel) (by decide +kernel) (fun _ _ _ h => h) (by assumption) (Or.inl ⟨by rfl, ?_⟩) ?_
    rotate_left
    · intro w hSw; go_simp; (try with_reducible rfl)
    simp only [List.set_cons_zero, List.set_cons_succ]
    refine wpAnyH_takeL (i := 20) 59 (v := ?_) rfl rfl (by kernel_rfl) (by decide +kernel) (by decide +kernel) (fun _ _ _ h => h) (by assumption) (Or.inl ⟨by rfl, ?_⟩) ?_
    rotate_left
    · intro w hSw; go_simp; (try with_reducible rfl)
    simp only [List.set_cons_zero, List.set_cons_succ]
    refine wpAnyH_takeL (i := 21) 60 (v := ?_) rfl rfl (by kernel_rfl) (by decide +kernel) (by decide +kernel) (fun _ _ _ h => h) (by assumption) (Or.inl ⟨by rfl, ?_⟩) ?_
    rotate_left
    · intro w hSw; go_simp; (try with_reducible rfl)
    simp only [List.set_cons_zero, List.set_cons_succ]
    refine wpAnyH_takeL (i := 22) 61 (v := ?_) rfl rfl (by kernel_rfl) (by decide +kernel) (by decide +kernel) (fun _ _ _ h => h) (by assumption) (Or.inl ⟨by rfl, ?_⟩) ?_
    rotate_left
    · intro w hSw; go_simp; (try with_reducible rfl)
    simp only [List.set_cons_zero, List.set_cons_succ]
    refine wpAnyH_takeL (i := 25) 64 (v := ?_) rfl rfl (by kernel_rfl) (by decide +kernel) (by decide +kernel) (fun _ _ _ h => h) (by assumption) (Or.inl ⟨by rfl, ?_⟩) ?_
    rotate_left
    · intro w hSw; go_simp; (try with_reducible rfl)
    simp only [List.set_cons_zero, List.set_cons_succ]
    refine wpAnyH_ready (rs := [23, 26]) (by decide +kernel) (by simp) ?_
    refine (AllReadyH.cons (o := ⟨some 62, _, _, _, _, _⟩) rfl (fun K hK => ?_) (AllReadyH.cons (o := ⟨some 65, _, _, _, _, _⟩) rfl (fun K hK => ?_) AllReadyH.nil))
    · skip
      go_simp
      refine hK.out _ _ (by exact Fr.range (S := Non) (a := w8) (by (with_reducible (repeat (first | assumption | exact Fr.refl _ _ | refine Fr.toAlloc ?_ _ | refine Fr.toDrew ?_)))) HRG.out (fun h => h)) (fun hHeld => ?_)
      clear hK K
      refine wpAnyH_ready (rs := [24, 26]) (by decide +kernel) (by simp) ?_
      refine (AllReadyH.cons (o := ⟨some 63, _, _, _, _, _⟩) rfl (fun K hK => ?_) (AllReadyH.cons (o := ⟨some 65, _, _, _, _, _⟩) rfl (fun K hK => ?_) AllReadyH.nil))
      · skip
        go_simp
        go_wp2_with ((go_at_call 9; (with_reducible show Calls _ _ #[Value.slice _ 3 3] _ _); refine (HC.out.all (ls := [l1, [], l2]) (HC.out.tf HT8.out (by (with_reducible (repeat (first | assumption | exact Fr.refl _ _ | refine Fr.toAlloc ?_ _ | refine Fr.toDrew ?_))))) ?_ M3.out.1 M3.out.2).mono ?_; (focus (repeat (first | ((with_reducible refine Rows2.built (ls := [l1, [], l2]) (n := 3) (us := [.slice a1 n1 c1, .slice none 0 0, .slice a2 n2 c2]) ?_ ?_ ?_ ?_ ?_); (focus simp); (focus rfl); (focus decide); (focus rfl); (focus exact (all3 (HR1.out.non (by (with_reducible (repeat (first | assumption | exact Fr.refl _ _ | refine Fr.toAlloc ?_ _ | refine Fr.toDrew ?_))))) (Row.nil _) (HR2.out.non (by (with_reducible (repeat (first | assumption | exact Fr.refl _ _ | refine Fr.toAlloc ?_ _ | refine Fr.toDrew ?_)))))))) | (with_reducible refine Rows2.toAlloc ?_ _) | (with_reducible refine Rows2.toDrew ?_) | (with_reducible refine Rows2.frame ?_ (by assumption))))); rintro e wn ⟨rfl, hff⟩; have hfn := Fr.non (a := w8) (by (with_reducible (repeat (first | assumption | exact Fr.refl _ _ | refine Fr.toAlloc ?_ _ | refine Fr.toDrew ?_)))) hff; have hfp := hff; clear hff; rw [F3.out]))
        refine hK.out _ _ (by exact Fr.range (S := Non) (a := w8) (by (with_reducible (repeat (first | assumption | exact Fr.refl _ _ | refine Fr.toAlloc ?_ _ | refine Fr.toDrew ?_)))) HRG.out (fun h => h)) (fun hHeld => ?_)
        clear hK K
        refine wpAnyH_ready (rs := [26]) (by decide +kernel) (by simp) ?_
        refine (AllReadyH.cons (o := ⟨some 65, _, _, _, _, _⟩) rfl (fun K hK => ?_) AllReadyH.nil)
        go_simp
        refine hK.out _ _ (by exact Fr.range (S := Non) (a := w8) (by (with_reducible (repeat (first | assumption | exact Fr.refl _ _ | refine Fr.toAlloc ?_ _ | refine Fr.toDrew ?_)))) HRG.out (fun h => h)) (fun hHeld => ?_)
        clear hK K
        refine wpAnyH_ready (rs := [27]) (by decide +kernel) (by simp) ?_
        refine (AllReadyH.cons (o := ⟨some 66, _, _, _, _, _⟩) rfl (fun K hK => ?_) AllReadyH.nil)
        go_simp
        go_wp2_with ((go_at_call 9; (with_reducible show Calls _ _ #[Value.slice _ 1 1] _ _); refine (HC.out.all (ls := [l]) (HC.out.tf HT8.out (by (with_reducible (repeat (first | assumption | exact Fr.refl _ _ | refine Fr.toAlloc ?_ _ | refine Fr.toDrew ?_))))) ?_ M1.out.1 M1.out.2).mono ?_; (focus (repeat (first | ((with_reducible refine Rows2.built (ls := [l]) (n := 1) (us := [.slice a n c]) ?_ ?_ ?_ ?_ ?_); (focus simp); (focus rfl); (focus decide); (focus rfl); (focus exact (all1 (HRa.out.non (by (with_reducible (repeat (first | assumption | exact Fr.refl _ _ | refine Fr.toAlloc ?_ _ | refine Fr.toDrew ?_)))))))) | (with_reducible refine Rows2.toAlloc ?_ _) | (with_reducible refine Rows2.toDrew ?_) | (with_reducible refine Rows2.frame ?_ (by assumption))))); rintro e wn ⟨rfl, hff⟩; have hfn := Fr.non (a := w8) (by (with_reducible (repeat (first | assumption | exact Fr.refl _ _ | refine Fr.toAlloc ?_ _ | refine Fr.toDrew ?_)))) hff; have hfp := hff; clear hff; rw [F1.out]))
        refine hK.out _ _ (by exact Fr.range (S := Non) (a := w8) (by (with_reducible (repeat (first | assumption | exact Fr.refl _ _ | refine Fr.toAlloc ?_ _ | refine Fr.toDrew ?_)))) HRG.out (fun h => h)) (fun hHeld => ?_)
        clear hK K
        refine wpAnyH_takeL (i := 28) 67 (v := ?_) rfl rfl (by kernel_rfl) (by decide +kernel) (by decide +kernel) (fun _ _ _ h => h) (by assumption) (Or.inl ⟨by rfl, ?_⟩) ?_
        rotate_left
        · intro w hSw; go_simp; (try with_reducible rfl)
        simp only [List.set_cons_zero, List.set_cons_succ]
        refine wpAnyH_takeL (i := 29) 68 (v := ?_) rfl rfl (by kernel_rfl) (by decide +kernel) (by decide +kernel) (fun _ _ _ h => h) (by assumption) (Or.inl ⟨by rfl, ?_⟩) ?_
        rotate_left
        · intro w hSw; go_simp; (try with_reducible rfl)
        simp only [List.set_cons_zero, List.set_cons_succ]
        refine wpAnyH_takeL (i := 30) 69 (v := ?_) rfl rfl (by kernel_rfl) (by decide +kernel) (by decide +kernel) (fun _ _ _ h => h) (by assumption) (Or.inl ⟨by rfl, ?_⟩) ?_
        rotate_left
        · intro w hSw; go_simp; (try with_reducible rfl)
        simp only [List.set_cons_zero, List.set_cons_succ]
        refine wpAnyH_takeL (i := 31) 70 (v := .agg (bs (sha l1)).toArray) rfl rfl (by kernel_rfl) (by decide +kernel) (by decide +kernel) (fun _ _ _ h => h) (by assumption) (yieldsIf_load_mid (by rfl) _ _ rfl D 0 rfl (bs (sha l1)) _ (fun w h => h) hu rfl hinf) ?_
        simp only [List.set_cons_zero, List.set_cons_succ]
        refine wpAnyH_takeL (i := 32) 71 (v := ?_) rfl rfl (by kernel_rfl) (by decide +kernel) (by decide +kernel) (fun _ _ _ h => h) (by assumption) (Or.inl ⟨by rfl, ?_⟩) ?_
        rotate_left
        · intro w hSw; go_simp; (try with_reducible rfl)
        simp only [List.set_cons_zero, List.set_cons_succ]
        refine wpAnyH_takeL (i := 33) 72 (v := ?_) rfl rfl (by kernel_rfl) (by decide +kernel) (by decide +kernel) (fun _ _ _ h => h) (by assumption) (Or.inl ⟨by rfl, ?_⟩) ?_
        rotate_left
        · intro w hSw; go_simp; (try with_reducible rfl)
        simp only [List.set_cons_zero, List.set_cons_succ]
        refine wpAnyH_takeL (i := 34) 73 (v := ?_) rfl rfl (by kernel_rfl) (by decide +kernel) (by decide +kernel) (fun _ _ _ h => h) (by assumption) (Or.inl ⟨by rfl, ?_⟩) ?_
        rotate_left
        · intro w hSw; go_simp; (try with_reducible rfl)
        simp only [List.set_cons_zero, List.set_cons_succ]
        refine wpAnyH_ready (rs := [35]) (by decide +kernel) (by simp) ?_
        refine (AllReadyH.cons (o := ⟨some 74, _, _, _, _, _⟩) rfl (fun K hK => ?_) AllReadyH.nil)
        go_simp
        refine hK.out _ _ (by exact Fr.range (S := Non) (a := w8) (by (with_reducible (repeat (first | assumption | exact Fr.refl _ _ | refine Fr.toAlloc ?_ _ | refine Fr.toDrew ?_)))) HRG.out (fun h => h)) (fun hHeld => ?_)
        clear hK K
        refine wpAnyH_ready (rs := [36]) (by decide +kernel) (by simp) ?_
        refine (AllReadyH.cons (o := ⟨some 75, _, _, _, _, _⟩) rfl (fun K hK => ?_) AllReadyH.nil)
        go_simp
        go_wp2_with ((go_at_call 9; (with_reducible show Calls _ _ #[Value.slice _ 1 1] _ _); refine (HC.out.all (ls := [l1]) (HC.out.tf HT8.out (by (with_reducible (repeat (first | assumption | exact Fr.refl _ _ | refine Fr.toAlloc ?_ _ | refine Fr.toDrew ?_))))) ?_ M2.out.1 M2.out.2).mono ?_; (focus (repeat (first | ((with_reducible refine Rows2.built (ls := [l1]) (n := 1) (us := [.slice a1 n1 c1]) ?_ ?_ ?_ ?_ ?_); (focus simp); (focus rfl); (focus decide); (focus rfl); (focus exact (all1 (HR1.out.non (by (with_reducible (repeat (first | assumption | exact Fr.refl _ _ | refine Fr.toAlloc ?_ _ | refine Fr.toDrew ?_)))))))) | (with_reducible refine Rows2.toAlloc ?_ _) | (with_reducible refine Rows2.toDrew ?_) | (with_reducible refine Rows2.frame ?_ (by assumption))))); rintro e wn ⟨rfl, hff⟩; have hfn := Fr.non (a := w8) (by (with_reducible (repeat (first | assumption | exact Fr.refl _ _ | refine Fr.toAlloc ?_ _ | refine Fr.toDrew ?_)))) hff; have hfp := hff; clear hff; rw [F2.out]))
        refine hK.out _ _ (by exact Fr.range (S := Non) (a := w8) (by (with_reducible (repeat (first | assumption | exact Fr.refl _ _ | refine Fr.toAlloc ?_ _ | refine Fr.toDrew ?_)))) HRG.out (fun h => h)) (fun hHeld => ?_)
        clear hK K
        refine wpAnyH_takeL (i := 37) 76 (v := ?_) rfl rfl (by kernel_rfl) (by decide +kernel) (by decide +kernel) (fun _ _ _ h => h) (by assumption) (Or.inl ⟨by rfl, ?_⟩) ?_
        rotate_left
        · intro w hSw; go_simp; (try with_reducible rfl)
        simp only [List.set_cons_zero, List.set_cons_succ]
        refine wpAnyH_takeL (i := 38) 77 (v := ?_) rfl rfl (by kernel_rfl) (by decide +kernel) (by decide +kernel) (fun _ _ _ h => h) (by assumption) (Or.inl ⟨by rfl, ?_⟩) ?_
        rotate_left
        · intro w hSw; go_simp; (try with_reducible rfl)
        simp only [List.set_cons_zero, List.set_cons_succ]
        refine wpAnyH_takeL (i := 39) 78 (v := ?_) rfl rfl (by kernel_rfl) (by decide +kernel) (by decide +kernel) (fun _ _ _ h => h) (by assumption) (Or.inl ⟨by rfl, ?_⟩) ?_
        rotate_left
        · intro w hSw; go_simp; (try with_reducible rfl)
        simp only [List.set_cons_zero, List.set_cons_succ]
        refine wpAnyH_takeL (i := 40) 79 (v := ?_) rfl rfl (by kernel_rfl) (by decide +kernel) (by decide +kernel) (fun _ _ _ h => h) (by assumption) (Or.inl ⟨by rfl, ?_⟩) ?_
        rotate_left
        · intro w hSw; go_simp; (try with_reducible rfl)
        simp only [List.set_cons_zero, List.set_cons_succ]
        refine wpAnyH_takeL (i := 42) 81 (v := ?_) rfl rfl (by kernel_rfl) (by decide +kernel) (by decide +kernel) (fun _ _ _ h => h) (by assumption) (Or.inl ⟨by rfl, ?_⟩) ?_
        rotate_left
        · intro w hSw; go_simp; (try with_reducible rfl)
        simp only [List.set_cons_zero, List.set_cons_succ]
        refine wpAnyH_takeL (i := 43) 82 (v := ?_) rfl rfl (by kernel_rfl) (by decide +kernel) (by decide +kernel) (fun _ _ _ h => h) (by assumption) (Or.inl ⟨by rfl, ?_⟩) ?_
        rotate_left
        · intro w hSw; go_simp; (try with_reducible rfl)
        simp only [List.set_cons_zero, List.set_cons_succ]
        refine wpAnyH_ready (rs := [41]) (by decide +kernel) (by simp) ?_
        refine (AllReadyH.cons (o := ⟨some 80, _, _, _, _, _⟩) rfl (fun K hK => ?_) AllReadyH.nil)
        go_simp
        go_wp2_with ((go_at_call 14; refine (HC.out.len (HC.out.sf HS8.out (w := w8) (S := Non) (by (with_reducible (repeat (first | assumption | exact Fr.refl _ _ | refine Fr.toAlloc ?_ _ | refine Fr.toDrew ?_)))) (fun _ h => h.elim))).mono ?_; rintro e wn ⟨rfl, rfl⟩; rw [HNI.out]))
        refine hK.out _ _ (by exact Fr.range (S := Non) (a := w8) (by (with_reducible (repeat (first | assumption | exact Fr.refl _ _ | refine Fr.toAlloc ?_ _ | refine Fr.toDrew ?_)))) HRG.out (fun h => h)) (fun hHeld => ?_)
        clear hK K
        refine wpAnyH_takeL (i := 44) 83 (v := ?_) rfl rfl (by kernel_rfl) (by decide +kernel) (by decide +kernel) (fun _ _ _ h => h) (by assumption) (Or.inl ⟨by rfl, ?_⟩) ?_
        rotate_left
        · intro w hSw; go_simp; (try with_reducible rfl)
        simp only [List.set_cons_zero, List.set_cons_succ]
        refine wpAnyH_takeL (i := 45) 84 (v := ?_) rfl rfl (by kernel_rfl) (by decide +kernel) (by decide +kernel) (fun _ _ _ h => h) (by assumption) (Or.inl ⟨by rfl, ?_⟩) ?_
        rotate_left
        · intro w hSw; go_simp; (try with_reducible rfl)
        simp only [List.set_cons_zero, List.set_cons_succ]
        refine wpAnyH_takeL (i := 46) 4 (v := ?_) rfl rfl (by kernel_rfl) (by decide +kernel) (by decide +kernel) (fun _ _ _ h => h) (by assumption) (Or.inl ⟨by rfl, ?_⟩) ?_
        rotate_left
        · intro w hSw; go_simp; (try with_reducible rfl)
        simp only [List.set_cons_zero, List.set_cons_succ]
        refine wpAnyH_done (by decide +kernel) ?_ _
        go_wp2
        go_ret
        exact ⟨by simp, hfW8.non (by (with_reducible (repeat (first | assumption | exact Fr.refl _ _ | refine Fr.toAlloc ?_ _ | refine Fr.toDrew ?_))))⟩
      · skip
        go_simp
        refine hK.out _ _ (by exact Fr.range (S := Non) (a := w8) (by (with_reducible (repeat (first | assumption | exact Fr.refl _ _ | refine Fr.toAlloc ?_ _ | refine Fr.toDrew ?_)))) HRG.out (fun h => h)) (fun hHeld => ?_)
        clear hK K
        refine wpAnyH_ready (rs := [24]) (by decide +kernel) (by simp) ?_
        refine (AllReadyH.cons (o := ⟨some 63, _, _, _, _, _⟩) rfl (fun K hK => ?_) AllReadyH.nil)
        go_simp
        go_wp2_with ((go_at_call 9; (with_reducible show Calls _ _ #[Value.slice _ 3 3] _ _); refine (HC.out.all (ls := [l1, [], l2]) (HC.out.tf HT8.out (by (with_reducible (repeat (first | assumption | exact Fr.refl _ _ | refine Fr.toAlloc ?_ _ | refine Fr.toDrew ?_))))) ?_ M3.out.1 M3.out.2).mono ?_; (focus (repeat (first | ((with_reducible refine Rows2.built (ls := [l1, [], l2]) (n := 3) (us := [.slice a1 n1 c1, .slice none 0 0, .slice a2 n2 c2]) ?_ ?_ ?_ ?_ ?_); (focus simp); (focus rfl); (focus decide); (focus rfl); (focus exact (all3 (HR1.out.non (by (with_reducible (repeat (first | assumption | exact Fr.refl _ _ | refine Fr.toAlloc ?_ _ | refine Fr.toDrew ?_))))) (Row.nil _) (HR2.out.non (by (with_reducible (repeat (first | assumption | exact Fr.refl _ _ | refine Fr.toAlloc ?_ _ | refine Fr.toDrew ?_)))))))) | (with_reducible refine Rows2.toAlloc ?_ _) | (with_reducible refine Rows2.toDrew ?_) | (with_reducible refine Rows2.frame ?_ (by assumption))))); rintro e wn ⟨rfl, hff⟩; have hfn := Fr.non (a := w8) (by (with_reducible (repeat (first | assumption | exact Fr.refl _ _ | refine Fr.toAlloc ?_ _ | refine Fr.toDrew ?_)))) hff; have hfp := hff; clear hff; rw [F3.out]))
        refine hK.out _ _ (by exact Fr.range (S := Non) (a := w8) (by (with_reducible (repeat (first | assumption | exact Fr.refl _ _ | refine Fr.toAlloc ?_ _ | refine Fr.toDrew ?_)))) HRG.out (fun h => h)) (fun hHeld => ?_)
        clear hK K
        refine wpAnyH_ready (rs := [27]) (by decide +kernel) (by simp) ?_
        refine (AllReadyH.cons (o := ⟨some 66, _, _, _, _, _⟩) rfl (fun K hK => ?_) AllReadyH.nil)
        go_simp
        go_wp2_with ((go_at_call 9; (with_reducible show Calls _ _ #[Value.slice _ 1 1] _ _); refine (HC.out.all (ls := [l]) (HC.out.tf HT8.out (by (with_reducible (repeat (first | assumption | exact Fr.refl _ _ | refine Fr.toAlloc ?_ _ | refine Fr.toDrew ?_))))) ?_ M1.out.1 M1.out.2).mono ?_; (focus (repeat (first | ((with_reducible refine Rows2.built (ls := [l]) (n := 1) (us := [.slice a n c]) ?_ ?_ ?_ ?_ ?_); (focus simp); (focus rfl); (focus decide); (focus rfl); (focus exact (all1 (HRa.out.non (by (with_reducible (repeat (first | assumption | exact Fr.refl _ _ | refine Fr.toAlloc ?_ _ | refine Fr.toDrew ?_)))))))) | (with_reducible refine Rows2.toAlloc ?_ _) | (with_reducible refine Rows2.toDrew ?_) | (with_reducible refine Rows2.frame ?_ (by assumption))))); rintro e wn ⟨rfl, hff⟩; have hfn := Fr.non (a := w8) (by (with_reducible (repeat (first | assumption | exact Fr.refl _ _ | refine Fr.toAlloc ?_ _ | refine Fr.toDrew ?_)))) hff; have hfp := hff; clear hff; rw [F1.out]))
        refine hK.out _ _ (by exact Fr.range (S := Non) (a := w8) (by (with_reducible (repeat (first | assumption | exact Fr.refl _ _ | refine Fr.toAlloc ?_ _ | refine Fr.toDrew ?_)))) HRG.out (fun h => h)) (fun hHeld => ?_)
        clear hK K
        refine wpAnyH_takeL (i := 28) 67 (v := ?_) rfl rfl (by kernel_rfl) (by decide +kernel) (by decide +kernel) (fun _ _ _ h => h) (by assumption) (Or.inl ⟨by rfl, ?_⟩) ?_
        rotate_left
        · intro w hSw; go_simp; (try with_reducible rfl)
        simp only [List.set_cons_zero, List.set_cons_succ]
        refine wpAnyH_takeL (i := 29) 68 (v := ?_) rfl rfl (by kernel_rfl) (by decide +kernel) (by decide +kernel) (fun _ _ _ h => h) (by assumption) (Or.inl ⟨by rfl, ?_⟩) ?_
        rotate_left
        · intro w hSw; go_simp; (try with_reducible rfl)
        simp only [List.set_cons_zero, List.set_cons_succ]
        refine wpAnyH_takeL (i := 30) 69 (v := ?_) rfl rfl (by kernel_rfl) (by decide +kernel) (by decide +kernel) (fun _ _ _ h => h) (by assumption) (Or.inl ⟨by rfl, ?_⟩) ?_
        rotate_left
        · intro w hSw; go_simp; (try with_reducible rfl)
        simp only [List.set_cons_zero, List.set_cons_succ]
        refine wpAnyH_takeL (i := 31) 70 (v := .agg (bs (sha l1)).toArray) rfl rfl (by kernel_rfl) (by decide +kernel) (by decide +kernel) (fun _ _ _ h => h) (by assumption) (yieldsIf_load_mid (by rfl) _ _ rfl D 0 rfl (bs (sha l1)) _ (fun w h => h) hu rfl hinf) ?_
        simp only [List.set_cons_zero, List.set_cons_succ]
        refine wpAnyH_takeL (i := 32) 71 (v := ?_) rfl rfl (by kernel_rfl) (by decide +kernel) (by decide +kernel) (fun _ _ _ h => h) (by assumption) (Or.inl ⟨by rfl, ?_⟩) ?_
        rotate_left
        · intro w hSw; go_simp; (try with_reducible rfl)
        simp only [List.set_cons_zero, List.set_cons_succ]
        refine wpAnyH_takeL (i := 33) 72 (v := ?_) rfl rfl (by kernel_rfl) (by decide +kernel) (by decide +kernel) (fun _ _ _ h => h) (by assumption) (Or.inl ⟨by rfl, ?_⟩) ?_
        rotate_left
        · intro w hSw; go_simp; (try with_reducible rfl)
        simp only [List.set_cons_zero, List.set_cons_succ]
        refine wpAnyH_takeL (i := 34) 73 (v := ?_) rfl rfl (by kernel_rfl) (by decide +kernel) (by decide +kernel) (fun _ _ _ h => h) (by assumption) (Or.inl ⟨by rfl, ?_⟩) ?_
        rotate_left
        · intro w hSw; go_simp; (try with_reducible rfl)
        simp only [List.set_cons_zero, List.set_cons_succ]
        refine wpAnyH_ready (rs := [35]) (by decide +kernel) (by simp) ?_
        refine (AllReadyH.cons (o := ⟨some 74, _, _, _, _, _⟩) rfl (fun K hK => ?_) AllReadyH.nil)
        go_simp
        refine hK.out _ _ (by exact Fr.range (S := Non) (a := w8) (by (with_reducible (repeat (first | assumption | exact Fr.refl _ _ | refine Fr.toAlloc ?_ _ | refine Fr.toDrew ?_)))) HRG.out (fun h => h)) (fun hHeld => ?_)
        clear hK K
        refine wpAnyH_ready (rs := [36]) (by decide +kernel) (by simp) ?_
        refine (AllReadyH.cons (o := ⟨some 75, _, _, _, _, _⟩) rfl (fun K hK => ?_) AllReadyH.nil)
        go_simp
        go_wp2_with ((go_at_call 9; (with_reducible show Calls _ _ #[Value.slice _ 1 1] _ _); refine (HC.out.all (ls := [l1]) (HC.out.tf HT8.out (by (with_reducible (repeat (first | assumption | exact Fr.refl _ _ | refine Fr.toAlloc ?_ _ | refine Fr.toDrew ?_))))) ?_ M2.out.1 M2.out.2).mono ?_; (focus (repeat (first | ((with_reducible refine Rows2.built (ls := [l1]) (n := 1) (us := [.slice a1 n1 c1]) ?_ ?_ ?_ ?_ ?_); (focus simp); (focus rfl); (focus decide); (focus rfl); (focus exact (all1 (HR1.out.non (by (with_reducible (repeat (first | assumption | exact Fr.refl _ _ | refine Fr.toAlloc ?_ _ | refine Fr.toDrew ?_)))))))) | (with_reducible refine Rows2.toAlloc ?_ _) | (with_reducible refine Rows2.toDrew ?_) | (with_reducible refine Rows2.frame ?_ (by assumption))))); rintro e wn ⟨rfl, hff⟩; have hfn := Fr.non (a := w8) (by (with_reducible (repeat (first | assumption | exact Fr.refl _ _ | refine Fr.toAlloc ?_ _ | refine Fr.toDrew ?_)))) hff; have hfp := hff; clear hff; rw [F2.out]))
        refine hK.out _ _ (by exact Fr.range (S := Non) (a := w8) (by (with_reducible (repeat (first | assumption | exact Fr.refl _ _ | refine Fr.toAlloc ?_ _ | refine Fr.toDrew ?_)))) HRG.out (fun h => h)) (fun hHeld => ?_)
        clear hK K
        refine wpAnyH_takeL (i := 37) 76 (v := ?_) rfl rfl (by kernel_rfl) (by decide +kernel) (by decide +kernel) (fun _ _ _ h => h) (by assumption) (Or.inl ⟨by rfl, ?_⟩) ?_
        rotate_left
        · intro w hSw; go_simp; (try with_reducible rfl)
        simp only [List.set_cons_zero, List.set_cons_succ]
        refine wpAnyH_takeL (i := 38) 77 (v := ?_) rfl rfl (by kernel_rfl) (by decide +kernel) (by decide +kernel) (fun _ _ _ h => h) (by assumption) (Or.inl ⟨by rfl, ?_⟩) ?_
        rotate_left
        · intro w hSw; go_simp; (try with_reducible rfl)
        simp only [List.set_cons_zero, List.set_cons_succ]
        refine wpAnyH_takeL (i := 39) 78 (v := ?_) rfl rfl (by kernel_rfl) (by decide +kernel) (by decide +kernel) (fun _ _ _ h => h) (by assumption) (Or.inl ⟨by rfl, ?_⟩) ?_
        rotate_left
        · intro w hSw; go_simp; (try with_reducible rfl)
        simp only [List.set_cons_zero, List.set_cons_succ]
        refine wpAnyH_takeL (i := 40) 79 (v := ?_) rfl rfl (by kernel_rfl) (by decide +kernel) (by decide +kernel) (fun _ _ _ h => h) (by assumption) (Or.inl ⟨by rfl, ?_⟩) ?_
        rotate_left
        · intro w hSw; go_simp; (try with_reducible rfl)
        simp only [List.set_cons_zero, List.set_cons_succ]
        refine wpAnyH_takeL (i := 42) 81 (v := ?_) rfl rfl (by kernel_rfl) (by decide +kernel) (by decide +kernel) (fun _ _ _ h => h) (by assumption) (Or.inl ⟨by rfl, ?_⟩) ?_
        rotate_left
        · intro w hSw; go_simp; (try with_reducible rfl)
        simp only [List.set_cons_zero, List.set_cons_succ]
        refine wpAnyH_takeL (i := 43) 82 (v := ?_) rfl rfl (by kernel_rfl) (by decide +kernel) (by decide +kernel) (fun _ _ _ h => h) (by assumption) (Or.inl ⟨by rfl, ?_⟩) ?_
        rotate_left
        · intro w hSw; go_simp; (try with_reducible rfl)
        simp only [List.set_cons_zero, List.set_cons_succ]
        refine wpAnyH_ready (rs := [41]) (by decide +kernel) (by simp) ?_
        refine (AllReadyH.cons (o := ⟨some 80, _, _, _, _, _⟩) rfl (fun K hK => ?_) AllReadyH.nil)
        go_simp
        go_wp2_with ((go_at_call 14; refine (HC.out.len (HC.out.sf HS8.out (w := w8) (S := Non) (by (with_reducible (repeat (first | assumption | exact Fr.refl _ _ | refine Fr.toAlloc ?_ _ | refine Fr.toDrew ?_)))) (fun _ h => h.elim))).mono ?_; rintro e wn ⟨rfl, rfl⟩; rw [HNI.out]))
        refine hK.out _ _ (by exact Fr.range (S := Non) (a := w8) (by (with_reducible (repeat (first | assumption | exact Fr.refl _ _ | refine Fr.toAlloc ?_ _ | refine Fr.toDrew ?_)))) HRG.out (fun h => h)) (fun hHeld => ?_)
        clear hK K
        refine wpAnyH_takeL (i := 44) 83 (v := ?_) rfl rfl (by kernel_rfl) (by decide +kernel) (by decide +kernel) (fun _ _ _ h => h) (by assumption) (Or.inl ⟨by rfl, ?_⟩) ?_
        rotate_left
        · intro w hSw; go_simp; (try with_reducible rfl)
        simp only [List.set_cons_zero, List.set_cons_succ]
        refine wpAnyH_takeL (i := 45) 84 (v := ?_) rfl rfl (by kernel_rfl) (by decide +kernel) (by decide +kernel) (fun _ _ _ h => h) (by assumption) (Or.inl ⟨by rfl, ?_⟩) ?_
        rotate_left
        · intro w hSw; go_simp; (try with_reducible rfl)
        simp only [List.set_cons_zero, List.set_cons_succ]
        refine wpAnyH_takeL (i := 46) 4 (v := ?_) rfl rfl (by kernel_rfl) (by decide +kernel) (by decide +kernel) (fun _ _ _ h => h) (by assumption) (Or.inl ⟨by rfl, ?_⟩) ?_
        rotate_left
        · intro w hSw; go_simp; (try with_reducible rfl)
        simp only [List.set_cons_zero, List.set_cons_succ]
        refine wpAnyH_done (by decide +kernel) ?_ _
        go_wp2
        go_ret
        exact ⟨by simp, hfW8.non (by (with_reducible (repeat (first | assumption | exact Fr.refl _ _ | refine Fr.toAlloc ?_ _ | refine Fr.toDrew ?_))))⟩
    · skip
      go_simp
      refine hK.out _ _ (by exact Fr.range (S := Non) (a := w8) (by (with_reducible (repeat (first | assumption | exact Fr.refl _ _ | refine Fr.toAlloc ?_ _ | refine Fr.toDrew ?_)))) HRG.out (fun h => h)) (fun hHeld => ?_)
      clear hK K
      refine wpAnyH_ready (rs := [23]) (by decide +kernel) (by simp) ?_
      refine (AllReadyH.cons (o := ⟨some 62, _, _, _, _, _⟩) rfl (fun K hK => ?_) AllReadyH.nil)
      go_simp
      refine hK.out _ _ (by exact Fr.range (S := Non) (a := w8) (by (with_reducible (repeat (first | assumption | exact Fr.refl _ _ | refine Fr.toAlloc ?_ _ | refine Fr.toDrew ?_)))) HRG.out (fun h => h)) (fun hHeld => ?_)
      clear hK K
      refine wpAnyH_ready (rs := [24]) (by decide +kernel) (by simp) ?_
      refine (AllReadyH.cons (o := ⟨some 63, _, _, _, _, _⟩) rfl (fun K hK => ?_) AllReadyH.nil)
      go_simp
      go_wp2_with ((go_at_call 9; (with_reducible show Calls _ _ #[Value.slice _ 3 3] _ _); refine (HC.out.all (ls := [l1, [], l2]) (HC.out.tf HT8.out (by (with_reducible (repeat (first | assumption | exact Fr.refl _ _ | refine Fr.toAlloc ?_ _ | refine Fr.toDrew ?_))))) ?_ M3.out.1 M3.out.2).mono ?_; (focus (repeat (first | ((with_reducible refine Rows2.built (ls := [l1, [], l2]) (n := 3) (us := [.slice a1 n1 c1, .slice none 0 0, .slice a2 n2 c2]) ?_ ?_ ?_ ?_ ?_); (focus simp); (focus rfl); (focus decide); (focus rfl); (focus exact (all3 (HR1.out.non (by (with_reducible (repeat (first | assumption | exact Fr.refl _ _ | refine Fr.toAlloc ?_ _ | refine Fr.toDrew ?_))))) (Row.nil _) (HR2.out.non (by (with_reducible (repeat (first | assumption | exact Fr.refl _ _ | refine Fr.toAlloc ?_ _ | refine Fr.toDrew ?_)))))))) | (with_reducible refine Rows2.toAlloc ?_ _) | (with_reducible refine Rows2.toDrew ?_) | (with_reducible refine Rows2.frame ?_ (by assumption))))); rintro e wn ⟨rfl, hff⟩; have hfn := Fr.non (a := w8) (by (with_reducible (repeat (first | assumption | exact Fr.refl _ _ | refine Fr.toAlloc ?_ _ | refine Fr.toDrew ?_)))) hff; have hfp := hff; clear hff; rw [F3.out]))
      refine hK.out _ _ (by exact Fr.range (S := Non) (a := w8) (by (with_reducible (repeat (first | assumption | exact Fr.refl _ _ | refine Fr.toAlloc ?_ _ | refine Fr.toDrew ?_)))) HRG.out (fun h => h)) (fun hHeld => ?_)
      clear hK K
      refine wpAnyH_ready (rs := [27]) (by decide +kernel) (by simp) ?_
      refine (AllReadyH.cons (o := ⟨some 66, _, _, _, _, _⟩) rfl (fun K hK => ?_) AllReadyH.nil)
      go_simp
      go_wp2_with ((go_at_call 9; (with_reducible show Calls _ _ #[Value.slice _ 1 1] _ _); refine (HC.out.all (ls := [l]) (HC.out.tf HT8.out (by (with_reducible (repeat (first | assumption | exact Fr.refl _ _ | refine Fr.toAlloc ?_ _ | refine Fr.toDrew ?_))))) ?_ M1.out.1 M1.out.2).mono ?_; (focus (repeat (first | ((with_reducible refine Rows2.built (ls := [l]) (n := 1) (us := [.slice a n c]) ?_ ?_ ?_ ?_ ?_); (focus simp); (focus rfl); (focus decide); (focus rfl); (focus exact (all1 (HRa.out.non (by (with_reducible (repeat (first | assumption | exact Fr.refl _ _ | refine Fr.toAlloc ?_ _ | refine Fr.toDrew ?_)))))))) | (with_reducible refine Rows2.toAlloc ?_ _) | (with_reducible refine Rows2.toDrew ?_) | (with_reducible refine Rows2.frame ?_ (by assumption))))); rintro e wn ⟨rfl, hff⟩; have hfn := Fr.non (a := w8) (by (with_reducible (repeat (first | assumption | exact Fr.refl _ _ | refine Fr.toAlloc ?_ _ | refine Fr.toDrew ?_)))) hff; have hfp := hff; clear hff; rw [F1.out]))
      refine hK.out _ _ (by exact Fr.range (S := Non) (a := w8) (by (with_reducible (repeat (first | assumption | exact Fr.refl _ _ | refine Fr.toAlloc ?_ _ | refine Fr.toDrew ?_)))) HRG.out (fun h => h)) (fun hHeld => ?_)
      clear hK K
      refine wpAnyH_takeL (i := 28) 67 (v := ?_) rfl rfl (by kernel_rfl) (by decide +kernel) (by decide +kernel) (fun _ _ _ h => h) (by assumption) (Or.inl ⟨by rfl, ?_⟩) ?_
      rotate_left
      · intro w hSw; go_simp; (try with_reducible rfl)
      simp only [List.set_cons_zero, List.set_cons_succ]
      refine wpAnyH_takeL (i := 29) 68 (v := ?_) rfl rfl (by kernel_rfl) (by decide +kernel) (by decide +kernel) (fun _ _ _ h => h) (by assumption) (Or.inl ⟨by rfl, ?_⟩) ?_
      rotate_left
      · intro w hSw; go_simp; (try with_reducible rfl)
      simp only [List.set_cons_zero, List.set_cons_succ]
      refine wpAnyH_takeL (i := 30) 69 (v := ?_) rfl rfl (by kernel_rfl) (by decide +kernel) (by decide +kernel) (fun _ _ _ h => h) (by assumption) (Or.inl ⟨by rfl, ?_⟩) ?_
      rotate_left
      · intro w hSw; go_simp; (try with_reducible rfl)
      simp only [List.set_cons_zero, List.set_cons_succ]
      refine wpAnyH_takeL (i := 31) 70 (v := .agg (bs (sha l1)).toArray) rfl rfl (by kernel_rfl) (by decide +kernel) (by decide +kernel) (fun _ _ _ h => h) (by assumption) (yieldsIf_load_mid (by rfl) _ _ rfl D 0 rfl (bs (sha l1)) _ (fun w h => h) hu rfl hinf) ?_
      simp only [List.set_cons_zero, List.set_cons_succ]
      refine wpAnyH_takeL (i := 32) 71 (v := ?_) rfl rfl (by kernel_rfl) (by decide +kernel) (by decide +kernel) (fun _ _ _ h => h) (by assumption) (Or.inl ⟨by rfl, ?_⟩) ?_
      rotate_left
      · intro w hSw; go_simp; (try with_reducible rfl)
      simp only [List.set_cons_zero, List.set_cons_succ]
      refine wpAnyH_takeL (i := 33) 72 (v := ?_) rfl rfl (by kernel_rfl) (by decide +kernel) (by decide +kernel) (fun _ _ _ h => h) (by assumption) (Or.inl ⟨by rfl, ?_⟩) ?_
      rotate_left
      · intro w hSw; go_simp; (try with_reducible rfl)
      simp only [List.set_cons_zero, List.set_cons_succ]
      refine wpAnyH_takeL (i := 34) 73 (v := ?_) rfl rfl (by kernel_rfl) (by decide +kernel) (by decide +kernel) (fun _ _ _ h => h) (by assumption) (Or.inl ⟨by rfl, ?_⟩) ?_
      rotate_left
      · intro w hSw; go_simp; (try with_reducible rfl)
      simp only [List.set_cons_zero, List.set_cons_succ]
      refine wpAnyH_ready (rs := [35]) (by decide +kernel) (by simp) ?_
      refine (AllReadyH.cons (o := ⟨some 74, _, _, _, _, _⟩) rfl (fun K hK => ?_) AllReadyH.nil)
      go_simp
      refine hK.out _ _ (by exact Fr.range (S := Non) (a := w8) (by (with_reducible (repeat (first | assumption | exact Fr.refl _ _ | refine Fr.toAlloc ?_ _ | refine Fr.toDrew ?_)))) HRG.out (fun h => h)) (fun hHeld => ?_)
      clear hK K
      refine wpAnyH_ready (rs := [36]) (by decide +kernel) (by simp) ?_
      refine (AllReadyH.cons (o := ⟨some 75, _, _, _, _, _⟩) rfl (fun K hK => ?_) AllReadyH.nil)
      go_simp
      go_wp2_with ((go_at_call 9; (with_reducible show Calls _ _ #[Value.slice _ 1 1] _ _); refine (HC.out.all (ls := [l1]) (HC.out.tf HT8.out (by (with_reducible (repeat (first | assumption | exact Fr.refl _ _ | refine Fr.toAlloc ?_ _ | refine Fr.toDrew ?_))))) ?_ M2.out.1 M2.out.2).mono ?_; (focus (repeat (first | ((with_reducible refine Rows2.built (ls := [l1]) (n := 1) (us := [.slice a1 n1 c1]) ?_ ?_ ?_ ?_ ?_); (focus simp); (focus rfl); (focus decide); (focus rfl); (focus exact (all1 (HR1.out.non (by (with_reducible (repeat (first | assumption | exact Fr.refl _ _ | refine Fr.toAlloc ?_ _ | refine Fr.toDrew ?_)))))))) | (with_reducible refine Rows2.toAlloc ?_ _) | (with_reducible refine Rows2.toDrew ?_) | (with_reducible refine Rows2.frame ?_ (by assumption))))); rintro e wn ⟨rfl, hff⟩; have hfn := Fr.non (a := w8) (by (with_reducible (repeat (first | assumption | exact Fr.refl _ _ | refine Fr.toAlloc ?_ _ | refine Fr.toDrew ?_)))) hff; have hfp := hff; clear hff; rw [F2.out]))
      refine hK.out _ _ (by exact Fr.range (S := Non) (a := w8) (by (with_reducible (repeat (first | assumption | exact Fr.refl _ _ | refine Fr.toAlloc ?_ _ | refine Fr.toDrew ?_)))) HRG.out (fun h => h)) (fun hHeld => ?_)
      clear hK K
      refine wpAnyH_takeL (i := 37) 76 (v := ?_) rfl rfl (by kernel_rfl) (by decide +kernel) (by decide +kernel) (fun _ _ _ h => h) (by assumption) (Or.inl ⟨by rfl, ?_⟩) ?_
      rotate_left
      · intro w hSw; go_simp; (try with_reducible rfl)
      simp only [List.set_cons_zero, List.set_cons_succ]
      refine wpAnyH_takeL (i := 38) 77 (v := ?_) rfl rfl (by kernel_rfl) (by decide +kernel) (by decide +kernel) (fun _ _ _ h => h) (by assumption) (Or.inl ⟨by rfl, ?_⟩) ?_
      rotate_left
      · intro w hSw; go_simp; (try with_reducible rfl)
      simp only [List.set_cons_zero, List.set_cons_succ]
      refine wpAnyH_takeL (i := 39) 78 (v := ?_) rfl rfl (by kernel_rfl) (by decide +kernel) (by decide +kernel) (fun _ _ _ h => h) (by assumption) (Or.inl ⟨by rfl, ?_⟩) ?_
      rotate_left
      · intro w hSw; go_simp; (try with_reducible rfl)
      simp only [List.set_cons_zero, List.set_cons_succ]
      refine wpAnyH_takeL (i := 40) 79 (v := ?_) rfl rfl (by kernel_rfl) (by decide +kernel) (by decide +kernel) (fun _ _ _ h => h) (by assumption) (Or.inl ⟨by rfl, ?_⟩) ?_
      rotate_left
      · intro w hSw; go_simp; (try with_reducible rfl)
      simp only [List.set_cons_zero, List.set_cons_succ]
      refine wpAnyH_takeL (i := 42) 81 (v := ?_) rfl rfl (by kernel_rfl) (by decide +kernel) (by decide +kernel) (fun _ _ _ h => h) (by assumption) (Or.inl ⟨by rfl, ?_⟩) ?_
      rotate_left
      · intro w hSw; go_simp; (try with_reducible rfl)
      simp only [List.set_cons_zero, List.set_cons_succ]
      refine wpAnyH_takeL (i := 43) 82 (v := ?_) rfl rfl (by kernel_rfl) (by decide +kernel) (by decide +kernel) (fun _ _ _ h => h) (by assumption) (Or.inl ⟨by rfl, ?_⟩) ?_
      rotate_left
      · intro w hSw; go_simp; (try with_reducible rfl)
      simp only [List.set_cons_zero, List.set_cons_succ]
      refine wpAnyH_ready (rs := [41]) (by decide +kernel) (by simp) ?_
      refine (AllReadyH.cons (o := ⟨some 80, _, _, _, _, _⟩) rfl (fun K hK => ?_) AllReadyH.nil)
      go_simp
      go_wp2_with ((go_at_call 14; refine (HC.out.len (HC.out.sf HS8.out (w := w8) (S := Non) (by (with_reducible (repeat (first | assumption | exact Fr.refl _ _ | refine Fr.toAlloc ?_ _ | refine Fr.toDrew ?_)))) (fun _ h => h.elim))).mono ?_; rintro e wn ⟨rfl, rfl⟩; rw [HNI.out]))
      refine hK.out _ _ (by exact Fr.range (S := Non) (a := w8) (by (with_reducible (repeat (first | assumption | exact Fr.refl _ _ | refine Fr.toAlloc ?_ _ | refine Fr.toDrew ?_)))) HRG.out (fun h => h)) (fun hHeld => ?_)
      clear hK K
      refine wpAnyH_takeL (i := 44) 83 (v := ?_) rfl rfl (by kernel_rfl) (by decide +kernel) (by decide +kernel) (fun _ _ _ h => h) (by assumption) (Or.inl ⟨by rfl, ?_⟩) ?_
      rotate_left
      · intro w hSw; go_simp; (try with_reducible rfl)
      simp only [List.set_cons_zero, List.set_cons_succ]
      refine wpAnyH_takeL (i := 45) 84 (v := ?_) rfl rfl (by kernel_rfl) (by decide +kernel) (by decide +kernel) (fun _ _ _ h => h) (by assumption) (Or.inl ⟨by rfl, ?_⟩) ?_
      rotate_left
      · intro w hSw; go_simp; (try with_reducible rfl)
      simp only [List.set_cons_zero, List.set_cons_succ]
      refine wpAnyH_takeL (i := 46) 4 (v := ?_) rfl rfl (by kernel_rfl) (by decide +kernel) (by decide +kernel) (fun _ _ _ h => h) (by assumption) (Or.inl ⟨by rfl, ?_⟩) ?_
      rotate_left
      · intro w hSw; go_simp; (try with_reducible rfl)
      simp only [List.set_cons_zero, List.set_cons_succ]
      refine wpAnyH_done (by decide +kernel) ?_ _
      go_wp2
      go_ret
      exact ⟨by simp, hfW8.non (by (with_reducible (repeat (first | assumption | exact Fr.refl _ _ | refine Fr.toAlloc ?_ _ | refine Fr.toDrew ?_))))⟩
  · skip
    go_simp
    refine hK.out _ _ (by exact Fr.range (S := Non) (a := w8) (by (with_reducible (repeat (first | assumption | exact Fr.refl _ _ | refine Fr.toAlloc ?_ _ | refine Fr.toDrew ?_)))) HRG.out (fun h => h)) (fun hHeld => ?_)
    clear hK K
    refine wpAnyH_ready (rs := [10]) (by decide +kernel) (by simp) ?_
    refine (AllReadyH.cons (o := ⟨some 49, _, _, _, _, _⟩) rfl (fun K hK => ?_) AllReadyH.nil)
    go_simp
    go_wp2_with ((go_at_call_of 13 (Value.pointer (some p)); refine (HC.out.sum (HC.out.tf HT8.out (by (with_reducible (repeat (first | assumption | exact Fr.refl _ _ | refine Fr.toAlloc ?_ _ | refine Fr.toDrew ?_))))) (HC.out.sf HS8.out (w := w8) (S := Non) (by (with_reducible (repeat (first | assumption | exact Fr.refl _ _ | refine Fr.toAlloc ?_ _ | refine Fr.toDrew ?_)))) (fun _ h => h.elim))).mono ?_; rintro e wn ⟨rfl, hff⟩; have hfn := Fr.non (a := w8) (by (with_reducible (repeat (first | assumption | exact Fr.refl _ _ | refine Fr.toAlloc ?_ _ | refine Fr.toDrew ?_)))) hff; have hfp := hff; clear hff))
    refine hK.out _ _ (by exact Fr.range (S := Non) (a := w8) (by (with_reducible (repeat (first | assumption | exact Fr.refl _ _ | refine Fr.toAlloc ?_ _ | refine Fr.toDrew ?_)))) HRG.out (fun h => h)) (fun hHeld => ?_)
    clear hK K
    refine wpAnyH_ready (rs := [13]) (by decide +kernel) (by simp) ?_
    refine (AllReadyH.cons (o := ⟨some 52, _, _, _, _, _⟩) rfl (fun K hK => ?_) AllReadyH.nil)
    go_simp
    go_wp2_with ((go_at_call 9; (with_reducible show Calls _ _ #[Value.slice _ 1 1] _ _); refine (HC.out.all (ls := [l]) (HC.out.tf HT8.out (by (with_reducible (repeat (first | assumption | exact Fr.refl _ _ | refine Fr.toAlloc ?_ _ | refine Fr.toDrew ?_))))) ?_ M1.out.1 M1.out.2).mono ?_; (focus (repeat (first | ((with_reducible refine Rows2.built (ls := [l]) (n := 1) (us := [.slice a n c]) ?_ ?_ ?_ ?_ ?_); (focus simp); (focus rfl); (focus decide); (focus rfl); (focus exact (all1 (HRa.out.non (by (with_reducible (repeat (first | assumption | exact Fr.refl _ _ | refine Fr.toAlloc ?_ _ | refine Fr.toDrew ?_)))))))) | (with_reducible refine Rows2.toAlloc ?_ _) | (with_reducible refine Rows2.toDrew ?_) | (with_reducible refine Rows2.frame ?_ (by assumption))))); rintro e wn ⟨rfl, hff⟩; have hfn := Fr.non (a := w8) (by (with_reducible (repeat (first | assumption | exact Fr.refl _ _ | refine Fr.toAlloc ?_ _ | refine Fr.toDrew ?_)))) hff; have hfp := hff; clear hff; rw [F1.out]))
    refine hK.out _ _ (by exact Fr.range (S := Non) (a := w8) (by (with_reducible (repeat (first | assumption | exact Fr.refl _ _ | refine Fr.toAlloc ?_ _ | refine Fr.toDrew ?_)))) HRG.out (fun h => h)) (fun hHeld => ?_)
    clear hK K
    refine wpAnyH_takeL (i := 14) 53 (v := ?_) rfl rfl (by kernel_rfl) (by decide +kernel) (by decide +kernel) (fun _ _ _ h => h) (by assumption) (Or.inl ⟨by rfl, ?_⟩) ?_
    rotate_left
    · intro w hSw; go_simp; (try with_reducible rfl)
    simp only [List.set_cons_zero, List.set_cons_succ]
    refine wpAnyH_takeL (i := 15) 54 (v := ?_) rfl rfl (by kernel_rfl) (by decide +kernel) (by decide +kernel) (fun _ _ _ h => h) (by assumption) (Or.inl ⟨by rfl, ?_⟩) ?_
    rotate_left
    · intro w hSw; go_simp; (try with_reducible rfl)
    simp only [List.set_cons_zero, List.set_cons_succ]
    refine wpAnyH_takeL (i := 16) 55 (v := ?_) rfl rfl (by kernel_rfl) (by decide +kernel) (by decide +kernel) (fun _ _ _ h => h) (by assumption) (Or.inl ⟨by rfl, ?_⟩) ?_
    rotate_left
    · intro w hSw; go_simp; (try with_reducible rfl)
    simp only [List.set_cons_zero, List.set_cons_succ]
    refine wpAnyH_takeL (i := 17) 56 (v := ?_) rfl rfl (by kernel_rfl) (by decide +kernel) (by decide +kernel) (fun _ _ _ h => h) (by assumption) (Or.inl ⟨by rfl, ?_⟩) ?_
    rotate_left
    · intro w hSw; go_simp; (try with_reducible rfl)
    simp only [List.set_cons_zero, List.set_cons_succ]
    refine wpAnyH_takeL (i := 18) 57 (v := ?_) rfl rfl (by kernel_rfl) (by decide +kernel) (by decide +kernel) (fun _ _ _ h => h) (by assumption) (Or.inl ⟨by rfl, ?_⟩) ?_
    rotate_left
    · intro w hSw; go_simp; (try with_reducible rfl)
    simp only [List.set_cons_zero, List.set_cons_succ]
    refine wpAnyH_takeL (i := 19) 58 (v := ?_) rfl rfl (by kernel_rfl) (by decide +kernel) (by decide +kernel) (fun _ _ _ h => h) (by assumption) (Or.inl ⟨by rfl, ?_⟩) ?_
    rotate_left
    · intro w hSw; go_simp; (try with_reducible rfl)
    simp only [List.set_cons_zero, List.set_cons_succ]
    refine wpAnyH_takeL (i := 20) 59 (v := ?_) rfl rfl (by kernel_rfl) (by decide +kernel) (by decide +kernel) (fun _ _ _ h => h) (by assumption) (Or.inl ⟨by rfl, ?_⟩) ?_
    rotate_left
    · intro w hSw; go_simp; (try with_reducible rfl)
    simp only [List.set_cons_zero, List.set_cons_succ]
    refine wpAnyH_takeL (i := 21) 60 (v := ?_) rfl rfl (by kernel_rfl) (by decide +kernel) (by decide +kernel) (fun _ _ _ h => h) (by assumption) (Or.inl ⟨by rfl, ?_⟩) ?_
    rotate_left
    · intro w hSw; go_simp; (try with_reducible rfl)
    simp only [List.set_cons_zero, List.set_cons_succ]
    refine wpAnyH_takeL (i := 22) 61 (v := ?_) rfl rfl (by kernel_rfl) (by decide +kernel) (by decide +kernel) (fun _ _ _ h => h) (by assumption) (Or.inl ⟨by rfl, ?_⟩) ?_
    rotate_left
    · intro w hSw; go_simp; (try with_reducible rfl)
    simp only [List.set_cons_zero, List.set_cons_succ]
    refine wpAnyH_takeL (i := 25) 64 (v := ?_) rfl rfl (by kernel_rfl) (by decide +kernel) (by decide +kernel) (fun _ _ _ h => h) (by assumption) (Or.inl ⟨by rfl, ?_⟩) ?_
    rotate_left
    · intro w hSw; go_simp; (try with_reducible rfl)
    simp only [List.set_cons_zero, List.set_cons_succ]
    refine wpAnyH_ready (rs := [23, 26]) (by decide +kernel) (by simp) ?_
    refine (AllReadyH.cons (o := ⟨some 62, _, _, _, _, _⟩) rfl (fun K hK => ?_) (AllReadyH.cons (o := ⟨some 65, _, _, _, _, _⟩) rfl (fun K hK => ?_) AllReadyH.nil))
    · skip
      go_simp
      refine hK.out _ _ (by exact Fr.range (S := Non) (a := w8) (by (with_reducible (repeat (first | assumption | exact Fr.refl _ _ | refine Fr.toAlloc ?_ _ | refine Fr.toDrew ?_)))) HRG.out (fun h => h)) (fun hHeld => ?_)
      clear hK K
      refine wpAnyH_ready (rs := [24, 26]) (by decide +kernel) (by simp) ?_
      refine (AllReadyH.cons (o := ⟨some 63, _, _, _, _, _⟩) rfl (fun K hK => ?_) (AllReadyH.cons (o := ⟨some 65, _, _, _, _, _⟩) rfl (fun K hK => ?_) AllReadyH.nil))
      · skip
        go_simp
        go_wp2_with ((go_at_call 9; (with_reducible show Calls _ _ #[Value.slice _ 3 3] _ _); refine (HC.out.all (ls := [l1, [], l2]) (HC.out.tf HT8.out (by (with_reducible (repeat (first | assumption | exact Fr.refl _ _ | refine Fr.toAlloc ?_ _ | refine Fr.toDrew ?_))))) ?_ M3.out.1 M3.out.2).mono ?_; (focus (repeat (first | ((with_reducible refine Rows2.built (ls := [l1, [], l2]) (n := 3) (us := [.slice a1 n1 c1, .slice none 0 0, .slice a2 n2 c2]) ?_ ?_ ?_ ?_ ?_); (focus simp); (focus rfl); (focus decide); (focus rfl); (focus exact (all3 (HR1.out.non (by (with_reducible (repeat (first | assumption | exact Fr.refl _ _ | refine Fr.toAlloc ?_ _ | refine Fr.toDrew ?_))))) (Row.nil _) (HR2.out.non (by (with_reducible (repeat (first | assumption | exact Fr.refl _ _ | refine Fr.toAlloc ?_ _ | refine Fr.toDrew ?_)))))))) | (with_reducible refine Rows2.toAlloc ?_ _) | (with_reducible refine Rows2.toDrew ?_) | (with_reducible refine Rows2.frame ?_ (by assumption))))); rintro e wn ⟨rfl, hff⟩; have hfn := Fr.non (a := w8) (by (with_reducible (repeat (first | assumption | exact Fr.refl _ _ | refine Fr.toAlloc ?_ _ | refine Fr.toDrew ?_)))) hff; have hfp := hff; clear hff; rw [F3.out]))
        refine hK.out _ _ (by exact Fr.range (S := Non) (a := w8) (by (with_reducible (repeat (first | assumption | exact Fr.refl _ _ | refine Fr.toAlloc ?_ _ | refine Fr.toDrew ?_)))) HRG.out (fun h => h)) (fun hHeld => ?_)
        clear hK K
        refine wpAnyH_ready (rs := [26]) (by decide +kernel) (by simp) ?_
        refine (AllReadyH.cons (o := ⟨some 65, _, _, _, _, _⟩) rfl (fun K hK => ?_) AllReadyH.nil)
        go_simp
        refine hK.out _ _ (by exact Fr.range (S := Non) (a := w8) (by (with_reducible (repeat (first | assumption | exact Fr.refl _ _ | refine Fr.toAlloc ?_ _ | refine Fr.toDrew ?_)))) HRG.out (fun h => h)) (fun hHeld => ?_)
        clear hK K
        refine wpAnyH_ready (rs := [27]) (by decide +kernel) (by simp) ?_
        refine (AllReadyH.cons (o := ⟨some 66, _, _, _, _, _⟩) rfl (fun K hK => ?_) AllReadyH.nil)
        go_simp
        go_wp2_with ((go_at_call 9; (with_reducible show Calls _ _ #[Value.slice _ 1 1] _ _); refine (HC.out.all (ls := [l]) (HC.out.tf HT8.out (by (with_reducible (repeat (first | assumption | exact Fr.refl _ _ | refine Fr.toAlloc ?_ _ | refine Fr.toDrew ?_))))) ?_ M1.out.1 M1.out.2).mono ?_; (focus (repeat (first | ((with_reducible refine Rows2.built (ls := [l]) (n := 1) (us := [.slice a n c]) ?_ ?_ ?_ ?_ ?_); (focus simp); (focus rfl); (focus decide); (focus rfl); (focus exact (all1 (HRa.out.non (by (with_reducible (repeat (first | assumption | exact Fr.refl _ _ | refine Fr.toAlloc ?_ _ | refine Fr.toDrew ?_)))))))) | (with_reducible refine Rows2.toAlloc ?_ _) | (with_reducible refine Rows2.toDrew ?_) | (with_reducible refine Rows2.frame ?_ (by assumption))))); rintro e wn ⟨rfl, hff⟩; have hfn := Fr.non (a := w8) (by (with_reducible (repeat (first | assumption | exact Fr.refl _ _ | refine Fr.toAlloc ?_ _ | refine Fr.toDrew ?_)))) hff; have hfp := hff; clear hff; rw [F1.out]))
        refine hK.out _ _ (by exact Fr.range (S := Non) (a := w8) (by (with_reducible (repeat (first | assumption | exact Fr.refl _ _ | refine Fr.toAlloc ?_ _ | refine Fr.toDrew ?_)))) HRG.out (fun h => h)) (fun hHeld => ?_)
        clear hK K
        refine wpAnyH_takeL (i := 28) 67 (v := ?_) rfl rfl (by kernel_rfl) (by decide +kernel) (by decide +kernel) (fun _ _ _ h => h) (by assumption) (Or.inl ⟨by rfl, ?_⟩) ?_
        rotate_left
        · intro w hSw; go_simp; (try with_reducible rfl)
        simp only [List.set_cons_zero, List.set_cons_succ]
        refine wpAnyH_takeL (i := 29) 68 (v := ?_) rfl rfl (by kernel_rfl) (by decide +kernel) (by decide +kernel) (fun _ _ _ h => h) (by assumption) (Or.inl ⟨by rfl, ?_⟩) ?_
        rotate_left
        · intro w hSw; go_simp; (try with_reducible rfl)
        simp only [List.set_cons_zero, List.set_cons_succ]
        refine wpAnyH_takeL (i := 30) 69 (v := ?_) rfl rfl (by kernel_rfl) (by decide +kernel) (by decide +kernel) (fun _ _ _ h => h) (by assumption) (Or.inl ⟨by rfl, ?_⟩) ?_
        rotate_left
        · intro w hSw; go_simp; (try with_reducible rfl)
        simp only [List.set_cons_zero, List.set_cons_succ]
        refine wpAnyH_takeL (i := 31) 70 (v := .agg (bs (sha l1)).toArray) rfl rfl (by kernel_rfl) (by decide +kernel) (by decide +kernel) (fun _ _ _ h => h) (by assumption) (yieldsIf_load_mid (by rfl) _ _ rfl D 0 rfl (bs (sha l1)) _ (fun w h => h) hu rfl hinf) ?_
        simp only [List.set_cons_zero, List.set_cons_succ]
        refine wpAnyH_takeL (i := 32) 71 (v := ?_) rfl rfl (by kernel_rfl) (by decide +kernel) (by decide +kernel) (fun _ _ _ h => h) (by assumption) (Or.inl ⟨by rfl, ?_⟩) ?_
        rotate_left
        · intro w hSw; go_simp; (try with_reducible rfl)
        simp only [List.set_cons_zero, List.set_cons_succ]
        refine wpAnyH_takeL (i := 33) 72 (v := ?_) rfl rfl (by kernel_rfl) (by decide +kernel) (by decide +kernel) (fun _ _ _ h => h) (by assumption) (Or.inl ⟨by rfl, ?_⟩) ?_
        rotate_left
        · intro w hSw; go_simp; (try with_reducible rfl)
        simp only [List.set_cons_zero, List.set_cons_succ]
        refine wpAnyH_takeL (i := 34) 73 (v := ?_) rfl rfl (by kernel_rfl) (by decide +kernel) (by decide +kernel) (fun _ _ _ h => h) (by assumption) (Or.inl ⟨by rfl, ?_⟩) ?_
        rotate_left
        · intro w hSw; go_simp; (try with_reducible rfl)
        simp only [List.set_cons_zero, List.set_cons_succ]
        refine wpAnyH_ready (rs := [35]) (by decide +kernel) (by simp) ?_
        refine (AllReadyH.cons (o := ⟨some 74, _, _, _, _, _⟩) rfl (fun K hK => ?_) AllReadyH.nil)
        go_simp
        refine hK.out _ _ (by exact Fr.range (S := Non) (a := w8) (by (with_reducible (repeat (first | assumption | exact Fr.refl _ _ | refine Fr.toAlloc ?_ _ | refine Fr.toDrew ?_)))) HRG.out (fun h => h)) (fun hHeld => ?_)
        clear hK K
        refine wpAnyH_ready (rs := [36]) (by decide +kernel) (by simp) ?_
        refine (AllReadyH.cons (o := ⟨some 75, _, _, _, _, _⟩) rfl (fun K hK => ?_) AllReadyH.nil)
        go_simp
        go_wp2_with ((go_at_call 9; (with_reducible show Calls _ _ #[Value.slice _ 1 1] _ _); refine (HC.out.all (ls := [l1]) (HC.out.tf HT8.out (by (with_reducible (repeat (first | assumption | exact Fr.refl _ _ | refine Fr.toAlloc ?_ _ | refine Fr.toDrew ?_))))) ?_ M2.out.1 M2.out.2).mono ?_; (focus (repeat (first | ((with_reducible refine Rows2.built (ls := [l1]) (n := 1) (us := [.slice a1 n1 c1]) ?_ ?_ ?_ ?_ ?_); (focus simp); (focus rfl); (focus decide); (focus rfl); (focus exact (all1 (HR1.out.non (by (with_reducible (repeat (first | assumption | exact Fr.refl _ _ | refine Fr.toAlloc ?_ _ | refine Fr.toDrew ?_)))))))) | (with_reducible refine Rows2.toAlloc ?_ _) | (with_reducible refine Rows2.toDrew ?_) | (with_reducible refine Rows2.frame ?_ (by assumption))))); rintro e wn ⟨rfl, hff⟩; have hfn := Fr.non (a := w8) (by (with_reducible (repeat (first | assumption | exact Fr.refl _ _ | refine Fr.toAlloc ?_ _ | refine Fr.toDrew ?_)))) hff; have hfp := hff; clear hff; rw [F2.out]))
        refine hK.out _ _ (by exact Fr.range (S := Non) (a := w8) (by (with_reducible (repeat (first | assumption | exact Fr.refl _ _ | refine Fr.toAlloc ?_ _ | refine Fr.toDrew ?_)))) HRG.out (fun h => h)) (fun hHeld => ?_)
        clear hK K
        refine wpAnyH_takeL (i := 37) 76 (v := ?_) rfl rfl (by kernel_rfl) (by decide +kernel) (by decide +kernel) (fun _ _ _ h => h) (by assumption) (Or.inl ⟨by rfl, ?_⟩) ?_
        rotate_left
        · intro w hSw; go_simp; (try with_reducible rfl)
        simp only [List.set_cons_zero, List.set_cons_succ]
        refine wpAnyH_takeL (i := 38) 77 (v := ?_) rfl rfl (by kernel_rfl) (by decide +kernel) (by decide +kernel) (fun _ _ _ h => h) (by assumption) (Or.inl ⟨by rfl, ?_⟩) ?_
        rotate_left
        · intro w hSw; go_simp; (try with_reducible rfl)
        simp only [List.set_cons_zero, List.set_cons_succ]
        refine wpAnyH_takeL (i := 39) 78 (v := ?_) rfl rfl (by kernel_rfl) (by decide +kernel) (by decide +kernel) (fun _ _ _ h => h) (by assumption) (Or.inl ⟨by rfl, ?_⟩) ?_
        rotate_left
        · intro w hSw; go_simp; (try with_reducible rfl)
        simp only [List.set_cons_zero, List.set_cons_succ]
        refine wpAnyH_takeL (i := 40) 79 (v := ?_) rfl rfl (by kernel_rfl) (by decide +kernel) (by decide +kernel) (fun _ _ _ h => h) (by assumption) (Or.inl ⟨by rfl, ?_⟩) ?_
        rotate_left
        · intro w hSw; go_simp; (try with_reducible rfl)
        simp only [List.set_cons_zero, List.set_cons_succ]
        refine wpAnyH_takeL (i := 42) 81 (v := ?_) rfl rfl (by kernel_rfl) (by decide +kernel) (by decide +kernel) (fun _ _ _ h => h) (by assumption) (Or.inl ⟨by rfl, ?_⟩) ?_
        rotate_left
        · intro w hSw; go_simp; (try with_reducible rfl)
        simp only [List.set_cons_zero, List.set_cons_succ]
        refine wpAnyH_takeL (i := 43) 82 (v := ?_) rfl rfl (by kernel_rfl) (by decide +kernel) (by decide +kernel) (fun _ _ _ h => h) (by assumption) (Or.inl ⟨by rfl, ?_⟩) ?_
        rotate_left
        · intro w hSw; go_simp; (try with_reducible rfl)
        simp only [List.set_cons_zero, List.set_cons_succ]
        refine wpAnyH_ready (rs := [41]) (by decide +kernel) (by simp) ?_
        refine (AllReadyH.cons (o := ⟨some 80, _, _, _, _, _⟩) rfl (fun K hK => ?_) AllReadyH.nil)
        go_simp
        go_wp2_with ((go_at_call 14; refine (HC.out.len (HC.out.sf HS8.out (w := w8) (S := Non) (by (with_reducible (repeat (first | assumption | exact Fr.refl _ _ | refine Fr.toAlloc ?_ _ | refine Fr.toDrew ?_)))) (fun _ h => h.elim))).mono ?_; rintro e wn ⟨rfl, rfl⟩; rw [HNI.out]))
        refine hK.out _ _ (by exact Fr.range (S := Non) (a := w8) (by (with_reducible (repeat (first | assumption | exact Fr.refl _ _ | refine Fr.toAlloc ?_ _ | refine Fr.toDrew ?_)))) HRG.out (fun h => h)) (fun hHeld => ?_)
        clear hK K
        refine wpAnyH_takeL (i := 44) 83 (v := ?_) rfl rfl (by kernel_rfl) (by decide +kernel) (by decide +kernel) (fun _ _ _ h => h) (by assumption) (Or.inl ⟨by rfl, ?_⟩) ?_
        rotate_left
        · intro w hSw; go_simp; (try with_reducible rfl)
        simp only [List.set_cons_zero, List.set_cons_succ]
        refine wpAnyH_takeL (i := 45) 84 (v := ?_) rfl rfl (by kernel_rfl) (by decide +kernel) (by decide +kernel) (fun _ _ _ h => h) (by assumption) (Or.inl ⟨by rfl, ?_⟩) ?_
        rotate_left
        · intro w hSw; go_simp; (try with_reducible rfl)
        simp only [List.set_cons_zero, List.set_cons_succ]
        refine wpAnyH_takeL (i := 46) 4 (v := ?_) rfl rfl (by kernel_rfl) (by decide +kernel) (by decide +kernel) (fun _ _ _ h => h) (by assumption) (Or.inl ⟨by rfl, ?_⟩) ?_
        rotate_left
        · intro w hSw; go_simp; (try with_reducible rfl)
        simp only [List.set_cons_zero, List.set_cons_succ]
        refine wpAnyH_done (by decide +kernel) ?_ _
        go_wp2
        go_ret
        exact ⟨by simp, hfW8.non (by (with_reducible (repeat (first | assumption | exact Fr.refl _ _ | refine Fr.toAlloc ?_ _ | refine Fr.toDrew ?_))))⟩
      · skip
        go_simp
        refine hK.out _ _ (by exact Fr.range (S := Non) (a := w8) (by (with_reducible (repeat (first | assumption | exact Fr.refl _ _ | refine Fr.toAlloc ?_ _ | refine Fr.toDrew ?_)))) HRG.out (fun h => h)) (fun hHeld => ?_)
        clear hK K
        refine wpAnyH_ready (rs := [24]) (by decide +kernel) (by simp) ?_
        refine (AllReadyH.cons (o := ⟨some 63, _, _, _, _, _⟩) rfl (fun K hK => ?_) AllReadyH.nil)
        go_simp
        go_wp2_with ((go_at_call 9; (with_reducible show Calls _ _ #[Value.slice _ 3 3] _ _); refine (HC.out.all (ls := [l1, [], l2]) (HC.out.tf HT8.out (by (with_reducible (repeat (first | assumption | exact Fr.refl _ _ | refine Fr.toAlloc ?_ _ | refine Fr.toDrew ?_))))) ?_ M3.out.1 M3.out.2).mono ?_; (focus (repeat (first | ((with_reducible refine Rows2.built (ls := [l1, [], l2]) (n := 3) (us := [.slice a1 n1 c1, .slice none 0 0, .slice a2 n2 c2]) ?_ ?_ ?_ ?_ ?_); (focus simp); (focus rfl); (focus decide); (focus rfl); (focus exact (all3 (HR1.out.non (by (with_reducible (repeat (first | assumption | exact Fr.refl _ _ | refine Fr.toAlloc ?_ _ | refine Fr.toDrew ?_))))) (Row.nil _) (HR2.out.non (by (with_reducible (repeat (first | assumption | exact Fr.refl _ _ | refine Fr.toAlloc ?_ _ | refine Fr.toDrew ?_)))))))) | (with_reducible refine Rows2.toAlloc ?_ _) | (with_reducible refine Rows2.toDrew ?_) | (with_reducible refine Rows2.frame ?_ (by assumption))))); rintro e wn ⟨rfl, hff⟩; have hfn := Fr.non (a := w8) (by (with_reducible (repeat (first | assumption | exact Fr.refl _ _ | refine Fr.toAlloc ?_ _ | refine Fr.toDrew ?_)))) hff; have hfp := hff; clear hff; rw [F3.out]))
        refine hK.out _ _ (by exact Fr.range (S := Non) (a := w8) (by (with_reducible (repeat (first | assumption | exact Fr.refl _ _ | refine Fr.toAlloc ?_ _ | refine Fr.toDrew ?_)))) HRG.out (fun h => h)) (fun hHeld => ?_)
        clear hK K
        refine wpAnyH_ready (rs := [27]) (by decide +kernel) (by simp) ?_
        refine (AllReadyH.cons (o := ⟨some 66, _, _, _, _, _⟩) rfl (fun K hK => ?_) AllReadyH.nil)
        go_simp
        go_wp2_with ((go_at_call 9; (with_reducible show Calls _ _ #[Value.slice _ 1 1] _ _); refine (HC.out.all (ls := [l]) (HC.out.tf HT8.out (by (with_reducible (repeat (first | assumption | exact Fr.refl _ _ | refine Fr.toAlloc ?_ _ | refine Fr.toDrew ?_))))) ?_ M1.out.1 M1.out.2).mono ?_; (focus (repeat (first | ((with_reducible refine Rows2.built (ls := [l]) (n := 1) (us := [.slice a n c]) ?_ ?_ ?_ ?_ ?_); (focus simp); (focus rfl); (focus decide); (focus rfl); (focus exact (all1 (HRa.out.non (by (with_reducible (repeat (first | assumption | exact Fr.refl _ _ | refine Fr.toAlloc ?_ _ | refine Fr.toDrew ?_)))))))) | (with_reducible refine Rows2.toAlloc ?_ _) | (with_reducible refine Rows2.toDrew ?_) | (with_reducible refine Rows2.frame ?_ (by assumption))))); rintro e wn ⟨rfl, hff⟩; have hfn := Fr.non (a := w8) (by (with_reducible (repeat (first | assumption | exact Fr.refl _ _ | refine Fr.toAlloc ?_ _ | refine Fr.toDrew ?_)))) hff; have hfp := hff; clear hff; rw [F1.out]))
        refine hK.out _ _ (by exact Fr.range (S := Non) (a := w8) (by (with_reducible (repeat (first | assumption | exact Fr.refl _ _ | refine Fr.toAlloc ?_ _ | refine Fr.toDrew ?_)))) HRG.out (fun h => h)) (fun hHeld => ?_)
        clear hK K
        refine wpAnyH_takeL (i := 28) 67 (v := ?_) rfl rfl (by kernel_rfl) (by decide +kernel) (by decide +kernel) (fun _ _ _ h => h) (by assumption) (Or.inl ⟨by rfl, ?_⟩) ?_
        rotate_left
        · intro w hSw; go_simp; (try with_reducible rfl)
        simp only [List.set_cons_zero, List.set_cons_succ]
        refine wpAnyH_takeL (i := 29) 68 (v := ?_) rfl rfl (by kernel_rfl) (by decide +kernel) (by decide +kernel) (fun _ _ _ h => h) (by assumption) (Or.inl ⟨by rfl, ?_⟩) ?_
        rotate_left
        · intro w hSw; go_simp; (try with_reducible rfl)
        simp only [List.set_cons_zero, List.set_cons_succ]
        refine wpAnyH_takeL (i := 30) 69 (v := ?_) rfl rfl (by kernel_rfl) (by decide +kernel) (by decide +kernel) (fun _ _ _ h => h) (by assumption) (Or.inl ⟨by rfl, ?_⟩) ?_
        rotate_left
        · intro w hSw; go_simp; (try with_reducible rfl)
        simp only [List.set_cons_zero, List.set_cons_succ]
        refine wpAnyH_takeL (i := 31) 70 (v := .agg (bs (sha l1)).toArray) rfl rfl (by kernel_rfl) (by decide +kernel) (by decide +kernel) (fun _ _ _ h => h) (by assumption) (yieldsIf_load_mid (by rfl) _ _ rfl D 0 rfl (bs (sha l1)) _ (fun w h => h) hu rfl hinf) ?_
        simp only [List.set_cons_zero, List.set_cons_succ]
        refine wpAnyH_takeL (i := 32) 71 (v := ?_) rfl rfl (by kernel_rfl) (by decide +kernel) (by decide +kernel) (fun _ _ _ h => h) (by assumption) (Or.inl ⟨by rfl, ?_⟩) ?_
        rotate_left
        · intro w hSw; go_simp; (try with_reducible rfl)
        simp only [List.set_cons_zero, List.set_cons_succ]
        refine wpAnyH_takeL (i := 33) 72 (v := ?_) rfl rfl (by kernel_rfl) (by decide +kernel) (by decide +kernel) (fun _ _ _ h => h) (by assumption) (Or.inl ⟨by rfl, ?_⟩) ?_
        rotate_left
        · intro w hSw; go_simp; (try with_reducible rfl)
        simp only [List.set_cons_zero, List.set_cons_succ]
        refine wpAnyH_takeL (i := 34) 73 (v := ?_) rfl rfl (by kernel_rfl) (by decide +kernel) (by decide +kernel) (fun _ _ _ h => h) (by assumption) (Or.inl ⟨by rfl, ?_⟩) ?_
        rotate_left
        · intro w hSw; go_simp; (try with_reducible rfl)
        simp only [List.set_cons_zero, List.set_cons_succ]
        refine wpAnyH_ready (rs := [35]) (by decide +kernel) (by simp) ?_
        refine (AllReadyH.cons (o := ⟨some 74, _, _, _, _, _⟩) rfl (fun K hK => ?_) AllReadyH.nil)
        go_simp
        refine hK.out _ _ (by exact Fr.range (S := Non) (a := w8) (by (with_reducible (repeat (first | assumption | exact Fr.refl _ _ | refine Fr.toAlloc ?_ _ | refine Fr.toDrew ?_)))) HRG.out (fun h => h)) (fun hHeld => ?_)
        clear hK K
        refine wpAnyH_ready (rs := [36]) (by decide +kernel) (by simp) ?_
        refine (AllReadyH.cons (o := ⟨some 75, _, _, _, _, _⟩) rfl (fun K hK => ?_) AllReadyH.nil)
        go_simp
        go_wp2_with ((go_at_call 9; (with_reducible show Calls _ _ #[Value.slice _ 1 1] _ _); refine (HC.out.all (ls := [l1]) (HC.out.tf HT8.out (by (with_reducible (repeat (first | assumption | exact Fr.refl _ _ | refine Fr.toAlloc ?_ _ | refine Fr.toDrew ?_))))) ?_ M2.out.1 M2.out.2).mono ?_; (focus (repeat (first | ((with_reducible refine Rows2.built (ls := [l1]) (n := 1) (us := [.slice a1 n1 c1]) ?_ ?_ ?_ ?_ ?_); (focus simp); (focus rfl); (focus decide); (focus rfl); (focus exact (all1 (HR1.out.non (by (with_reducible (repeat (first | assumption | exact Fr.refl _ _ | refine Fr.toAlloc ?_ _ | refine Fr.toDrew ?_)))))))) | (with_reducible refine Rows2.toAlloc ?_ _) | (with_reducible refine Rows2.toDrew ?_) | (with_reducible refine Rows2.frame ?_ (by assumption))))); rintro e wn ⟨rfl, hff⟩; have hfn := Fr.non (a := w8) (by (with_reducible (repeat (first | assumption | exact Fr.refl _ _ | refine Fr.toAlloc ?_ _ | refine Fr.toDrew ?_)))) hff; have hfp := hff; clear hff; rw [F2.out]))
        refine hK.out _ _ (by exact Fr.range (S := Non) (a := w8) (by (with_reducible (repeat (first | assumption | exact Fr.refl _ _ | refine Fr.toAlloc ?_ _ | refine Fr.toDrew ?_)))) HRG.out (fun h => h)) (fun hHeld => ?_)
        clear hK K
        refine wpAnyH_takeL (i := 37) 76 (v := ?_) rfl rfl (by kernel_rfl) (by decide +kernel) (by decide +kernel) (fun _ _ _ h => h) (by assumption) (Or.inl ⟨by rfl, ?_⟩) ?_
        rotate_left
        · intro w hSw; go_simp; (try with_reducible rfl)
        simp only [List.set_cons_zero, List.set_cons_succ]
        refine wpAnyH_takeL (i := 38) 77 (v := ?_) rfl rfl (by kernel_rfl) (by decide +kernel) (by decide +kernel) (fun _ _ _ h => h) (by assumption) (Or.inl ⟨by rfl, ?_⟩) ?_
        rotate_left
        · intro w hSw; go_simp; (try with_reducible rfl)
        simp only [List.set_cons_zero, List.set_cons_succ]
        refine wpAnyH_takeL (i := 39) 78 (v := ?_) rfl rfl (by kernel_rfl) (by decide +kernel) (by decide +kernel) (fun _ _ _ h => h) (by assumption) (Or.inl ⟨by rfl, ?_⟩) ?_
        rotate_left
        · intro w hSw; go_simp; (try with_reducible rfl)
        simp only [List.set_cons_zero, List.set_cons_succ]
        refine wpAnyH_takeL (i := 40) 79 (v := ?_) rfl rfl (by kernel_rfl) (by decide +kernel) (by decide +kernel) (fun _ _ _ h => h) (by assumption) (Or.inl ⟨by rfl, ?_⟩) ?_
        rotate_left
        · intro w hSw; go_simp; (try with_reducible rfl)
        simp only [List.set_cons_zero, List.set_cons_succ]
        refine wpAnyH_takeL (i := 42) 81 (v := ?_) rfl rfl (by kernel_rfl) (by decide +kernel) (by decide +kernel) (fun _ _ _ h => h) (by assumption) (Or.inl ⟨by rfl, ?_⟩) ?_
        rotate_left
        · intro w hSw; go_simp; (try with_reducible rfl)
        simp only [List.set_cons_zero, List.set_cons_succ]
        refine wpAnyH_takeL (i := 43) 82 (v := ?_) rfl rfl (by kernel_rfl) (by decide +kernel) (by decide +kernel) (fun _ _ _ h => h) (by assumption) (Or.inl ⟨by rfl, ?_⟩) ?_
        rotate_left
        · intro w hSw; go_simp; (try with_reducible rfl)
        simp only [List.set_cons_zero, List.set_cons_succ]
        refine wpAnyH_ready (rs := [41]) (by decide +kernel) (by simp) ?_
        refine (AllReadyH.cons (o := ⟨some 80, _, _, _, _, _⟩) rfl (fun K hK => ?_) AllReadyH.nil)
        go_simp
        go_wp2_with ((go_at_call 14; refine (HC.out.len (HC.out.sf HS8.out (w := w8) (S := Non) (by (with_reducible (repeat (first | assumption | exact Fr.refl _ _ | refine Fr.toAlloc ?_ _ | refine Fr.toDrew ?_)))) (fun _ h => h.elim))).mono ?_; rintro e wn ⟨rfl, rfl⟩; rw [HNI.out]))
        refine hK.out _ _ (by exact Fr.range (S := Non) (a := w8) (by (with_reducible (repeat (first | assumption | exact Fr.refl _ _ | refine Fr.toAlloc ?_ _ | refine Fr.toDrew ?_)))) HRG.out (fun h => h)) (fun hHeld => ?_)
        clear hK K
        refine wpAnyH_takeL (i := 44) 83 (v := ?_) rfl rfl (by kernel_rfl) (by decide +kernel) (by decide +kernel) (fun _ _ _ h => h) (by assumption) (Or.inl ⟨by rfl, ?_⟩) ?_
        rotate_left
        · intro w hSw; go_simp; (try with_reducible rfl)
        simp only [List.set_cons_zero, List.set_cons_succ]
        refine wpAnyH_takeL (i := 45) 84 (v := ?_) rfl rfl (by kernel_rfl) (by decide +kernel) (by decide +kernel) (fun _ _ _ h => h) (by assumption) (Or.inl ⟨by rfl, ?_⟩) ?_
        rotate_left
        · intro w hSw; go_simp; (try with_reducible rfl)
        simp only [List.set_cons_zero, List.set_cons_succ]
        refine wpAnyH_takeL (i := 46) 4 (v := ?_) rfl rfl (by kernel_rfl) (by decide +kernel) (by decide +kernel) (fun _ _ _ h => h) (by assumption) (Or.inl ⟨by rfl, ?_⟩) ?_
        rotate_left
        · intro w hSw; go_simp; (try with_reducible rfl)
        simp only [List.set_cons_zero, List.set_cons_succ]
        refine wpAnyH_done (by decide +kernel) ?_ _
        go_wp2
        go_ret
        exact ⟨by simp, hfW8.non (by (with_reducible (repeat (first | assumption | exact Fr.refl _ _ | refine Fr.toAlloc ?_ _ | refine Fr.toDrew ?_))))⟩
    · skip
      go_simp
      refine hK.out _ _ (by exact Fr.range (S := Non) (a := w8) (by (with_reducible (repeat (first | assumption | exact Fr.refl _ _ | refine Fr.toAlloc ?_ _ | refine Fr.toDrew ?_)))) HRG.out (fun h => h)) (fun hHeld => ?_)
      clear hK K
      refine wpAnyH_ready (rs := [23]) (by decide +kernel) (by simp) ?_
      refine (AllReadyH.cons (o := ⟨some 62, _, _, _, _, _⟩) rfl (fun K hK => ?_) AllReadyH.nil)
      go_simp
      refine hK.out _ _ (by exact Fr.range (S := Non) (a := w8) (by (with_reducible (repeat (first | assumption | exact Fr.refl _ _ | refine Fr.toAlloc ?_ _ | refine Fr.toDrew ?_)))) HRG.out (fun h => h)) (fun hHeld => ?_)
      clear hK K
      refine wpAnyH_ready (rs := [24]) (by decide +kernel) (by simp) ?_
      refine (AllReadyH.cons (o := ⟨some 63, _, _, _, _, _⟩) rfl (fun K hK => ?_) AllReadyH.nil)
      go_simp
      go_wp2_with ((go_at_call 9; (with_reducible show Calls _ _ #[Value.slice _ 3 3] _ _); refine (HC.out.all (ls := [l1, [], l2]) (HC.out.tf HT8.out (by (with_reducible (repeat (first | assumption | exact Fr.refl _ _ | refine Fr.toAlloc ?_ _ | refine Fr.toDrew ?_))))) ?_ M3.out.1 M3.out.2).mono ?_; (focus (repeat (first | ((with_reducible refine Rows2.built (ls := [l1, [], l2]) (n := 3) (us := [.slice a1 n1 c1, .slice none 0 0, .slice a2 n2 c2]) ?_ ?_ ?_ ?_ ?_); (focus simp); (focus rfl); (focus decide); (focus rfl); (focus exact (all3 (HR1.out.non (by (with_reducible (repeat (first | assumption | exact Fr.refl _ _ | refine Fr.toAlloc ?_ _ | refine Fr.toDrew ?_))))) (Row.nil _) (HR2.out.non (by (with_reducible (repeat (first | assumption | exact Fr.refl _ _ | refine Fr.toAlloc ?_ _ | refine Fr.toDrew ?_)))))))) | (with_reducible refine Rows2.toAlloc ?_ _) | (with_reducible refine Rows2.toDrew ?_) | (with_reducible refine Rows2.frame ?_ (by assumption))))); rintro e wn ⟨rfl, hff⟩; have hfn := Fr.non (a := w8) (by (with_reducible (repeat (first | assumption | exact Fr.refl _ _ | refine Fr.toAlloc ?_ _ | refine Fr.toDrew ?_)))) hff; have hfp := hff; clear hff; rw [F3.out]))
      refine hK.out _ _ (by exact Fr.range (S := Non) (a := w8) (by (with_reducible (repeat (first | assumption | exact Fr.refl _ _ | refine Fr.toAlloc ?_ _ | refine Fr.toDrew ?_)))) HRG.out (fun h => h)) (fun hHeld => ?_)
      clear hK K
      refine wpAnyH_ready (rs := [27]) (by decide +kernel) (by simp) ?_
      refine (AllReadyH.cons (o := ⟨some 66, _, _, _, _, _⟩) rfl (fun K hK => ?_) AllReadyH.nil)
      go_simp
      go_wp2_with ((go_at_call 9; (with_reducible show Calls _ _ #[Value.slice _ 1 1] _ _); refine (HC.out.all (ls := [l]) (HC.out.tf HT8.out (by (with_reducible (repeat (first | assumption | exact Fr.refl _ _ | refine Fr.toAlloc ?_ _ | refine Fr.toDrew ?_))))) ?_ M1.out.1 M1.out.2).mono ?_; (focus (repeat (first | ((with_reducible refine Rows2.built (ls := [l]) (n := 1) (us := [.slice a n c]) ?_ ?_ ?_ ?_ ?_); (focus simp); (focus rfl); (focus decide); (focus rfl); (focus exact (all1 (HRa.out.non (by (with_reducible (repeat (first | assumption | exact Fr.refl _ _ | refine Fr.toAlloc ?_ _ | refine Fr.toDrew ?_)))))))) | (with_reducible refine Rows2.toAlloc ?_ _) | (with_reducible refine Rows2.toDrew ?_) | (with_reducible refine Rows2.frame ?_ (by assumption))))); rintro e wn ⟨rfl, hff⟩; have hfn := Fr.non (a := w8) (by (with_reducible (repeat (first | assumption | exact Fr.refl _ _ | refine Fr.toAlloc ?_ _ | refine Fr.toDrew ?_)))) hff; have hfp := hff; clear hff; rw [F1.out]))
      refine hK.out _ _ (by exact Fr.range (S := Non) (a := w8) (by (with_reducible (repeat (first | assumption | exact Fr.refl _ _ | refine Fr.toAlloc ?_ _ | refine Fr.toDrew ?_)))) HRG.out (fun h => h)) (fun hHeld => ?_)
      clear hK K
      refine wpAnyH_takeL (i := 28) 67 (v := ?_) rfl rfl (by kernel_rfl) (by decide +kernel) (by decide +kernel) (fun _ _ _ h => h) (by assumption) (Or.inl ⟨by rfl, ?_⟩) ?_
      rotate_left
      · intro w hSw; go_simp; (try with_reducible rfl)
      simp only [List.set_cons_zero, List.set_cons_succ]
      refine wpAnyH_takeL (i := 29) 68 (v := ?_) rfl rfl (by kernel_rfl) (by decide +kernel) (by decide +kernel) (fun _ _ _ h => h) (by assumption) (Or.inl ⟨by rfl, ?_⟩) ?_
      rotate_left
      · intro w hSw; go_simp; (try with_reducible rfl)
      simp only [List.set_cons_zero, List.set_cons_succ]
      refine wpAnyH_takeL (i := 30) 69 (v := ?_) rfl rfl (by kernel_rfl) (by decide +kernel) (by decide +kernel) (fun _ _ _ h => h) (by assumption) (Or.inl ⟨by rfl, ?_⟩) ?_
      rotate_left
      · intro w hSw; go_simp; (try with_reducible rfl)
      simp only [List.set_cons_zero, List.set_cons_succ]
      refine wpAnyH_takeL (i := 31) 70 (v := .agg (bs (sha l1)).toArray) rfl rfl (by kernel_rfl) (by decide +kernel) (by decide +kernel) (fun _ _ _ h => h) (by assumption) (yieldsIf_load_mid (by rfl) _ _ rfl D 0 rfl (bs (sha l1)) _ (fun w h => h) hu rfl hinf) ?_
      simp only [List.set_cons_zero, List.set_cons_succ]
      refine wpAnyH_takeL (i := 32) 71 (v := ?_) rfl rfl (by kernel_rfl) (by decide +kernel) (by decide +kernel) (fun _ _ _ h => h) (by assumption) (Or.inl ⟨by rfl, ?_⟩) ?_
      rotate_left
      · intro w hSw; go_simp; (try with_reducible rfl)
      simp only [List.set_cons_zero, List.set_cons_succ]
      refine wpAnyH_takeL (i := 33) 72 (v := ?_) rfl rfl (by kernel_rfl) (by decide +kernel) (by decide +kernel) (fun _ _ _ h => h) (by assumption) (Or.inl ⟨by rfl, ?_⟩) ?_
      rotate_left
      · intro w hSw; go_simp; (try with_reducible rfl)
      simp only [List.set_cons_zero, List.set_cons_succ]
      refine wpAnyH_takeL (i := 34) 73 (v := ?_) rfl rfl (by kernel_rfl) (by decide +kernel) (by decide +kernel) (fun _ _ _ h => h) (by assumption) (Or.inl ⟨by rfl, ?_⟩) ?_
      rotate_left
      · intro w hSw; go_simp; (try with_reducible rfl)
      simp only [List.set_cons_zero, List.set_cons_succ]
      refine wpAnyH_ready (rs := [35]) (by decide +kernel) (by simp) ?_
      refine (AllReadyH.cons (o := ⟨some 74, _, _, _, _, _⟩) rfl (fun K hK => ?_) AllReadyH.nil)
      go_simp
      refine hK.out _ _ (by exact Fr.range (S := Non) (a := w8) (by (with_reducible (repeat (first | assumption | exact Fr.refl _ _ | refine Fr.toAlloc ?_ _ | refine Fr.toDrew ?_)))) HRG.out (fun h => h)) (fun hHeld => ?_)
      clear hK K
      refine wpAnyH_ready (rs := [36]) (by decide +kernel) (by simp) ?_
      refine (AllReadyH.cons (o := ⟨some 75, _, _, _, _, _⟩) rfl (fun K hK => ?_) AllReadyH.nil)
      go_simp
      go_wp2_with ((go_at_call 9; (with_reducible show Calls _ _ #[Value.slice _ 1 1] _ _); refine (HC.out.all (ls := [l1]) (HC.out.tf HT8.out (by (with_reducible (repeat (first | assumption | exact Fr.refl _ _ | refine Fr.toAlloc ?_ _ | refine Fr.toDrew ?_))))) ?_ M2.out.1 M2.out.2).mono ?_; (focus (repeat (first | ((with_reducible refine Rows2.built (ls := [l1]) (n := 1) (us := [.slice a1 n1 c1]) ?_ ?_ ?_ ?_ ?_); (focus simp); (focus rfl); (focus decide); (focus rfl); (focus exact (all1 (HR1.out.non (by (with_reducible (repeat (first | assumption | exact Fr.refl _ _ | refine Fr.toAlloc ?_ _ | refine Fr.toDrew ?_)))))))) | (with_reducible refine Rows2.toAlloc ?_ _) | (with_reducible refine Rows2.toDrew ?_) | (with_reducible refine Rows2.frame ?_ (by assumption))))); rintro e wn ⟨rfl, hff⟩; have hfn := Fr.non (a := w8) (by (with_reducible (repeat (first | assumption | exact Fr.refl _ _ | refine Fr.toAlloc ?_ _ | refine Fr.toDrew ?_)))) hff; have hfp := hff; clear hff; rw [F2.out]))
      refine hK.out _ _ (by exact Fr.range (S := Non) (a := w8) (by (with_reducible (repeat (first | assumption | exact Fr.refl _ _ | refine Fr.toAlloc ?_ _ | refine Fr.toDrew ?_)))) HRG.out (fun h => h)) (fun hHeld => ?_)
      clear hK K
      refine wpAnyH_takeL (i := 37) 76 (v := ?_) rfl rfl (by kernel_rfl) (by decide +kernel) (by decide +kernel) (fun _ _ _ h => h) (by assumption) (Or.inl ⟨by rfl, ?_⟩) ?_
      rotate_left
      · intro w hSw; go_simp; (try with_reducible rfl)
      simp only [List.set_cons_zero, List.set_cons_succ]
      refine wpAnyH_takeL (i := 38) 77 (v := ?_) rfl rfl (by kernel_rfl) (by decide +kernel) (by decide +kernel) (fun _ _ _ h => h) (by assumption) (Or.inl ⟨by rfl, ?_⟩) ?_
      rotate_left
      · intro w hSw; go_simp; (try with_reducible rfl)
      simp only [List.set_cons_zero, List.set_cons_succ]
      refine wpAnyH_takeL (i := 39) 78 (v := ?_) rfl rfl (by kernel_rfl) (by decide +kernel) (by decide +kernel) (fun _ _ _ h => h) (by assumption) (Or.inl ⟨by rfl, ?_⟩) ?_
      rotate_left
      · intro w hSw; go_simp; (try with_reducible rfl)
      simp only [List.set_cons_zero, List.set_cons_succ]
      refine wpAnyH_takeL (i := 40) 79 (v := ?_) rfl rfl (by kernel_rfl) (by decide +kernel) (by decide +kernel) (fun _ _ _ h => h) (by assumption) (Or.inl ⟨by rfl, ?_⟩) ?_
      rotate_left
      · intro w hSw; go_simp; (try with_reducible rfl)
      simp only [List.set_cons_zero, List.set_cons_succ]
      refine wpAnyH_takeL (i := 42) 81 (v := ?_) rfl rfl (by kernel_rfl) (by decide +kernel) (by decide +kernel) (fun _ _ _ h => h) (by assumption) (Or.inl ⟨by rfl, ?_⟩) ?_
      rotate_left
      · intro w hSw; go_simp; (try with_reducible rfl)
      simp only [List.set_cons_zero, List.set_cons_succ]
      refine wpAnyH_takeL (i := 43) 82 (v := ?_) rfl rfl (by kernel_rfl) (by decide +kernel) (by decide +kernel) (fun _ _ _ h => h) (by assumption) (Or.inl ⟨by rfl, ?_⟩) ?_
      rotate_left
      · intro w hSw; go_simp; (try with_reducible rfl)
      simp only [List.set_cons_zero, List.set_cons_succ]
      refine wpAnyH_ready (rs := [41]) (by decide +kernel) (by simp) ?_
      refine (AllReadyH.cons (o := ⟨some 80, _, _, _, _, _⟩) rfl (fun K hK => ?_) AllReadyH.nil)
      go_simp
      go_wp2_with ((go_at_call 14; refine (HC.out.len (HC.out.sf HS8.out (w := w8) (S := Non) (by (with_reducible (repeat (first | assumption | exact Fr.refl _ _ | refine Fr.toAlloc ?_ _ | refine Fr.toDrew ?_)))) (fun _ h => h.elim))).mono ?_; rintro e wn ⟨rfl, rfl⟩; rw [HNI.out]))
      refine hK.out _ _ (by exact Fr.range (S := Non) (a := w8) (by (with_reducible (repeat (first | assumption | exact Fr.refl _ _ | refine Fr.toAlloc ?_ _ | refine Fr.toDrew ?_)))) HRG.out (fun h => h)) (fun hHeld => ?_)
      clear hK K
      refine wpAnyH_takeL (i := 44) 83 (v := ?_) rfl rfl (by kernel_rfl) (by decide +kernel) (by decide +kernel) (fun _ _ _ h => h) (by assumption) (Or.inl ⟨by rfl, ?_⟩) ?_
      rotate_left
      · intro w hSw; go_simp; (try with_reducible rfl)
      simp only [List.set_cons_zero, List.set_cons_succ]
      refine wpAnyH_takeL (i := 45) 84 (v := ?_) rfl rfl (by kernel_rfl) (by decide +kernel) (by decide +kernel) (fun _ _ _ h => h) (by assumption) (Or.inl ⟨by rfl, ?_⟩) ?_
      rotate_left
      · intro w hSw; go_simp; (try with_reducible rfl)
      simp only [List.set_cons_zero, List.set_cons_succ]
      refine wpAnyH_takeL (i := 46) 4 (v := ?_) rfl rfl (by kernel_rfl) (by decide +kernel) (by decide +kernel) (fun _ _ _ h => h) (by assumption) (Or.inl ⟨by rfl, ?_⟩) ?_
      rotate_left
      · intro w hSw; go_simp; (try with_reducible rfl)
      simp only [List.set_cons_zero, List.set_cons_succ]
      refine wpAnyH_done (by decide +kernel) ?_ _
      go_wp2
      go_ret
      exact ⟨by simp, hfW8.non (by (with_reducible (repeat (first | assumption | exact Fr.refl _ _ | refine Fr.toAlloc ?_ _ | refine Fr.toDrew ?_))))⟩
end Go.Proofs.YtelagmelnkdheaaDoor
