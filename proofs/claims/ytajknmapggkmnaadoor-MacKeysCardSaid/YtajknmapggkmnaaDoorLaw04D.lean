/- layer 4: a key is as good with bytes 0 behind it, and a longer one as its digest -/
import Derived.Test.YtajknmapggkmnaaDoorLaw04C
namespace Go.Proofs.YtajknmapggkmnaaDoor
open Go.ChangeShapes Go.WideShapes Go.ChangeAt Go.RowKit

set_option maxRecDepth 100000 in
set_option maxHeartbeats 4000000 in
/-- P4.5 -/
theorem keys4_any (W : World) (v : Value) (key : List UInt8) (u : Value) (b : List UInt8) (hL : laidMetH Tryd.prog Rows.macKeysRow.laid W) (hv : Row W v (bs key)) (hkl : key.length ≤ 140737488351232) (hu : Row W u (bs b)) (hbl : b.length ≤ 140737488351232) :
    Calls Tryd.prog 8 #[v, u] W fun e W' => e = .returned (.bool true) ∧ Fr Non W W' := by
  obtain ⟨i0, hi⟩ := info_parts Tryd.info5
  have HI := Lib.hid hi
  have HT := Lib.hid (shaT_2 hL)
  obtain ⟨a, c, rfl, -⟩ := id hv
  obtain ⟨a2, c2, rfl, -⟩ := id hu
  simp only [bs_length] at *
  have HV := Lib.hid hv
  have HU := Lib.hid hu
  have hlenv := run_lenRow (P := Tryd.prog) hv 22 5 Tryd.underlying22
  rw [bs_length] at hlenv
  have hzv : ∀ w, (zeroValue 25).run Tryd.prog w = .ok (.agg (bs zero32).toArray) w := fun _ => by kernel_rfl
  have HZV := Lib.hid hzv
  have hif : (Tryd.prog.info? 25).map (·.size) = some 32 := by kernel_rfl
  have HIF := Lib.hid hif
  clear hi hL hv hu hzv hif
  by_cases h64 : 64 < key.length
  · have ht : (64 : Int) < (key.length : Int) := by omega
    go_enter Tryd.func8, Tryd.ntmps8
    go_wp2_with fail
    refine (psum_any _ [key] _ (Rows2.built (n := 1) (us := [.slice a key.length c]) rfl rfl (by decide) rfl (all1 HV.out)) (by simp; omega) (by simpa using hkl) (HT.out.1.frame (Fr.alloc _ _) (fun h => h)) (HT.out.2.frame (Fr.alloc _ _) (fun h => h))).mono ?_
    rintro e w1 ⟨rfl, hf1⟩
    have hF1 : Fr Non W w1 := (Fr.alloc _ _).non hf1
    have hkd := macSum_long key b h64
    have hD32 := sha_length key
    have heq := eqD (macSum_length key b)
    rw [show [key].flatten = key by simp]
    generalize sha key = D at hkd hD32
    have HD := Lib.hid (And.intro hkd hD32)
    clear hf1 hkd hD32
    go_wp2_with ((with_reducible show wpList _ _ _ (({ op := .alloc _, .. } : Oper) :: _) _ _); refine wpList_var rfl rfl 25 5 (.tmp 12) rfl rfl rfl rfl _ (bs D) HZV.out (by rw [bs_length, bs_length, HD.out.2]; rfl) (by rw [bs_length, HD.out.2]; exact HIF.out) (bs_one _) (by simp) (fun _ => rfl) ?_)
    intro w2 hb2 hf2 hs2
    simp only [List.set_cons_succ, List.set_cons_zero]
    obtain ⟨X, hX⟩ : ∃ X, X = w1.heap.size := ⟨_, rfl⟩
    rw [← hX] at hb2 ⊢
    have hrD := row_digest hb2 HD.out.2 32 (by omega)
    rw [List.take_of_length_le (by rw [HD.out.2]; omega)] at hrD
    have HRD := Lib.hid hrD
    have HF2 := Lib.hid (hF1.non hf2)
    clear hrD hF1 hb2 hf2 hs2 hX
    go_upto_region 3 with (fail)
    refine wp_region_held_drew (S := fun _ => True) (by kernel_rfl) trivial (fun hHeld => ?_)
    refine wpAnyH_ready (rs := [0]) (by kernel_rfl) (by simp) ?_
    refine AllReadyH.cons (o := ⟨some 13, _, _, _, _, _⟩) rfl (fun K hK => ?_) (AllReadyH.nil)
    go_simp
    go_wp2_with (go_at_call 11; refine (shown4_any _ (HT.out.non (HF2.out.non (Fr.drew _)))).mono ?_; rintro e r2 ⟨rfl, hf2⟩)
    have F2 : Hid (Fr Non w2.drew r2) := Lib.hid hf2
    clear hf2
    refine hK.out _ _ (trivial) (fun hHeld => ?_)
    clear hK K
    refine wpAnyH_takeL (i := 1) 14 (v := ?_) rfl rfl (by kernel_rfl) (by kernel_rfl) (by kernel_rfl) (fun _ _ _ h => h) (by assumption) (Or.inl ⟨by rfl, ?_⟩) ?_
    rotate_left
    · intro w hSw; go_simp; (try with_reducible rfl)
    simp only [List.set_cons_zero, List.set_cons_succ]
    refine wpAnyH_takeL (i := 2) 15 (v := ?_) rfl rfl (by kernel_rfl) (by kernel_rfl) (by kernel_rfl) (fun _ _ _ h => h) (by assumption) (Or.inl ⟨by rfl, ?_⟩) ?_
    rotate_left
    · intro w hSw; go_simp; (try with_reducible rfl)
    simp only [List.set_cons_zero, List.set_cons_succ]
    refine wpAnyH_takeL (i := 3) 16 (v := ?_) rfl rfl (by kernel_rfl) (by kernel_rfl) (by kernel_rfl) (fun _ _ _ h => h) (by assumption) (Or.inl ⟨by rfl, ?_⟩) ?_
    rotate_left
    · intro w hSw; go_simp; (try with_reducible rfl)
    simp only [List.set_cons_zero, List.set_cons_succ]
    refine wpAnyH_takeL (i := 6) 19 (v := ?_) rfl rfl (by kernel_rfl) (by kernel_rfl) (by kernel_rfl) (fun _ _ _ h => h) (by assumption) (Or.inl ⟨by rfl, ?_⟩) ?_
    rotate_left
    · intro w hSw; go_simp; (try with_reducible rfl)
    simp only [List.set_cons_zero, List.set_cons_succ]
    refine wpAnyH_takeL (i := 7) 20 (v := ?_) rfl rfl (by kernel_rfl) (by kernel_rfl) (by kernel_rfl) (fun _ _ _ h => h) (by assumption) (Or.inl ⟨by rfl, ?_⟩) ?_
    rotate_left
    · intro w hSw; go_simp; (try with_reducible rfl)
    simp only [List.set_cons_zero, List.set_cons_succ]
    refine wpAnyH_ready (rs := [4, 8]) (by kernel_rfl) (by simp) ?_
    refine AllReadyH.cons (o := ⟨some 17, _, _, _, _, _⟩) rfl (fun K hK => ?_) (AllReadyH.cons (o := ⟨some 21, _, _, _, _, _⟩) rfl (fun K hK => ?_) (AllReadyH.nil))
    · skip
      go_simp
      obtain ⟨r3, hw3⟩ : ∃ w', w' = r2.alloc (.cells #[.slice a2 b.length c2] 22) := ⟨_, rfl⟩
      rw [← hw3]
      have F3 : Hid (Fr Non r2 r3) := Lib.hid (by rw [hw3]; exact Fr.alloc _ _)
      have R4 : Hid (Rows2 r3 (.slice (some ⟨r2.heap.size, 0, none⟩) 1 1) [b]) := Lib.hid (by rw [hw3]; exact Rows2.built (n := 1) (us := [.slice a2 b.length c2]) rfl rfl (by decide) rfl (all1 (HU.out.non (HF2.out.non ((Fr.drew _).non F2.out)))))
      clear hw3
      refine hK.out _ _ (trivial) (fun hHeld => ?_)
      clear hK K
      refine wpAnyH_ready (rs := [5, 8]) (by kernel_rfl) (by simp) ?_
      refine AllReadyH.cons (o := ⟨some 18, _, _, _, _, _⟩) rfl (fun K hK => ?_) (AllReadyH.cons (o := ⟨some 21, _, _, _, _, _⟩) rfl (fun K hK => ?_) (AllReadyH.nil))
      · skip
        go_simp
        go_wp2_with (go_at_call 12; refine (macOp_any _ _ key [b] _ (HV.out.non (HF2.out.non ((Fr.drew _).non (F2.out.non F3.out)))) hkl (R4.out.frame (Fr.refl _ _)) (by simp; omega) (by simpa using hbl) (HT.out.non (HF2.out.non ((Fr.drew _).non (F2.out.non F3.out))))).mono ?_; rintro e r4 ⟨rfl, hf4⟩)
        have F4 : Hid (Fr Non r3 r4) := Lib.hid hf4
        clear hf4
        refine hK.out _ _ (trivial) (fun hHeld => ?_)
        clear hK K
        refine wpAnyH_ready (rs := [8]) (by kernel_rfl) (by simp) ?_
        refine AllReadyH.cons (o := ⟨some 21, _, _, _, _, _⟩) rfl (fun K hK => ?_) (AllReadyH.nil)
        go_simp
        obtain ⟨r5, hw5⟩ : ∃ w', w' = r4.alloc (.cells #[.slice a2 b.length c2] 22) := ⟨_, rfl⟩
        rw [← hw5]
        have F5 : Hid (Fr Non r4 r5) := Lib.hid (by rw [hw5]; exact Fr.alloc _ _)
        have R8 : Hid (Rows2 r5 (.slice (some ⟨r4.heap.size, 0, none⟩) 1 1) [b]) := Lib.hid (by rw [hw5]; exact Rows2.built (n := 1) (us := [.slice a2 b.length c2]) rfl rfl (by decide) rfl (all1 (HU.out.non (HF2.out.non ((Fr.drew _).non (F2.out.non (F3.out.non F4.out)))))))
        clear hw5
        refine hK.out _ _ (trivial) (fun hHeld => ?_)
        clear hK K
        refine wpAnyH_ready (rs := [9]) (by kernel_rfl) (by simp) ?_
        refine AllReadyH.cons (o := ⟨some 22, _, _, _, _, _⟩) rfl (fun K hK => ?_) (AllReadyH.nil)
        go_simp
        go_wp2_with (go_at_call 12; refine (macOp_any _ _ D [b] _ (HRD.out.non ((Fr.drew _).non (F2.out.non (F3.out.non (F4.out.non F5.out))))) (by rw [HD.out.2]; omega) (R8.out.frame (Fr.refl _ _)) (by simp; omega) (by simpa using hbl) (HT.out.non (HF2.out.non ((Fr.drew _).non (F2.out.non (F3.out.non (F4.out.non F5.out))))))).mono ?_; rintro e r6 ⟨rfl, hf6⟩)
        rw [HD.out.1]
        have F6 : Hid (Fr Non r5 r6) := Lib.hid hf6
        clear hf6
        refine hK.out _ _ (trivial) (fun hHeld => ?_)
        clear hK K
        refine wpAnyH_takeL (i := 10) 23 (v := ?_) rfl rfl (by kernel_rfl) (by kernel_rfl) (by kernel_rfl) (fun _ _ _ h => h) (by assumption) (Or.inl ⟨by rfl, ?_⟩) ?_
        rotate_left
        · intro w hSw; go_simp; (try with_reducible rfl)
        simp only [List.set_cons_zero, List.set_cons_succ]
        refine wpAnyH_takeL (i := 11) 24 (v := ?_) rfl rfl (by kernel_rfl) (by kernel_rfl) (by kernel_rfl) (fun _ _ _ h => h) (by assumption) (Or.inl ⟨by rfl, ?_⟩) ?_
        rotate_left
        · intro w hSw; go_simp; (try with_reducible rfl)
        simp only [List.set_cons_zero, List.set_cons_succ]
        refine wpAnyH_takeL (i := 12) 4 (v := ?_) rfl rfl (by kernel_rfl) (by kernel_rfl) (by kernel_rfl) (fun _ _ _ h => h) (by assumption) (Or.inl ⟨by rfl, ?_⟩) ?_
        rotate_left
        · intro w hSw; go_simp; (try with_reducible rfl)
        simp only [List.set_cons_zero, List.set_cons_succ]
        refine wpAnyH_done (by kernel_rfl) ?_ _
        go_wp2_with fail
        go_ret
        exact ⟨rfl, HF2.out.non ((Fr.drew _).non (F2.out.non (F3.out.non (F4.out.non (F5.out.non F6.out)))))⟩
      · skip
        go_simp
        obtain ⟨r4, hw4⟩ : ∃ w', w' = r3.alloc (.cells #[.slice a2 b.length c2] 22) := ⟨_, rfl⟩
        rw [← hw4]
        have F4 : Hid (Fr Non r3 r4) := Lib.hid (by rw [hw4]; exact Fr.alloc _ _)
        have R8 : Hid (Rows2 r4 (.slice (some ⟨r3.heap.size, 0, none⟩) 1 1) [b]) := Lib.hid (by rw [hw4]; exact Rows2.built (n := 1) (us := [.slice a2 b.length c2]) rfl rfl (by decide) rfl (all1 (HU.out.non (HF2.out.non ((Fr.drew _).non (F2.out.non F3.out))))))
        clear hw4
        refine hK.out _ _ (trivial) (fun hHeld => ?_)
        clear hK K
        refine wpAnyH_ready (rs := [5]) (by kernel_rfl) (by simp) ?_
        refine AllReadyH.cons (o := ⟨some 18, _, _, _, _, _⟩) rfl (fun K hK => ?_) (AllReadyH.nil)
        go_simp
        go_wp2_with (go_at_call 12; refine (macOp_any _ _ key [b] _ (HV.out.non (HF2.out.non ((Fr.drew _).non (F2.out.non (F3.out.non F4.out))))) hkl (R4.out.frame F4.out) (by simp; omega) (by simpa using hbl) (HT.out.non (HF2.out.non ((Fr.drew _).non (F2.out.non (F3.out.non F4.out)))))).mono ?_; rintro e r5 ⟨rfl, hf5⟩)
        have F5 : Hid (Fr Non r4 r5) := Lib.hid hf5
        clear hf5
        refine hK.out _ _ (trivial) (fun hHeld => ?_)
        clear hK K
        refine wpAnyH_ready (rs := [9]) (by kernel_rfl) (by simp) ?_
        refine AllReadyH.cons (o := ⟨some 22, _, _, _, _, _⟩) rfl (fun K hK => ?_) (AllReadyH.nil)
        go_simp
        go_wp2_with (go_at_call 12; refine (macOp_any _ _ D [b] _ (HRD.out.non ((Fr.drew _).non (F2.out.non (F3.out.non (F4.out.non F5.out))))) (by rw [HD.out.2]; omega) (R8.out.frame F5.out) (by simp; omega) (by simpa using hbl) (HT.out.non (HF2.out.non ((Fr.drew _).non (F2.out.non (F3.out.non (F4.out.non F5.out))))))).mono ?_; rintro e r6 ⟨rfl, hf6⟩)
        rw [HD.out.1]
        have F6 : Hid (Fr Non r5 r6) := Lib.hid hf6
        clear hf6
        refine hK.out _ _ (trivial) (fun hHeld => ?_)
        clear hK K
        refine wpAnyH_takeL (i := 10) 23 (v := ?_) rfl rfl (by kernel_rfl) (by kernel_rfl) (by kernel_rfl) (fun _ _ _ h => h) (by assumption) (Or.inl ⟨by rfl, ?_⟩) ?_
        rotate_left
        · intro w hSw; go_simp; (try with_reducible rfl)
        simp only [List.set_cons_zero, List.set_cons_succ]
        refine wpAnyH_takeL (i := 11) 24 (v := ?_) rfl rfl (by kernel_rfl) (by kernel_rfl) (by kernel_rfl) (fun _ _ _ h => h) (by assumption) (Or.inl ⟨by rfl, ?_⟩) ?_
        rotate_left
        · intro w hSw; go_simp; (try with_reducible rfl)
        simp only [List.set_cons_zero, List.set_cons_succ]
        refine wpAnyH_takeL (i := 12) 4 (v := ?_) rfl rfl (by kernel_rfl) (by kernel_rfl) (by kernel_rfl) (fun _ _ _ h => h) (by assumption) (Or.inl ⟨by rfl, ?_⟩) ?_
        rotate_left
        · intro w hSw; go_simp; (try with_reducible rfl)
        simp only [List.set_cons_zero, List.set_cons_succ]
        refine wpAnyH_done (by kernel_rfl) ?_ _
        go_wp2_with fail
        go_ret
        exact ⟨rfl, HF2.out.non ((Fr.drew _).non (F2.out.non (F3.out.non (F4.out.non (F5.out.non F6.out)))))⟩
    · skip
      go_simp
      obtain ⟨r3, hw3⟩ : ∃ w', w' = r2.alloc (.cells #[.slice a2 b.length c2] 22) := ⟨_, rfl⟩
      rw [← hw3]
      have F3 : Hid (Fr Non r2 r3) := Lib.hid (by rw [hw3]; exact Fr.alloc _ _)
      have R8 : Hid (Rows2 r3 (.slice (some ⟨r2.heap.size, 0, none⟩) 1 1) [b]) := Lib.hid (by rw [hw3]; exact Rows2.built (n := 1) (us := [.slice a2 b.length c2]) rfl rfl (by decide) rfl (all1 (HU.out.non (HF2.out.non ((Fr.drew _).non F2.out)))))
      clear hw3
      refine hK.out _ _ (trivial) (fun hHeld => ?_)
      clear hK K
      refine wpAnyH_ready (rs := [4]) (by kernel_rfl) (by simp) ?_
      refine AllReadyH.cons (o := ⟨some 17, _, _, _, _, _⟩) rfl (fun K hK => ?_) (AllReadyH.nil)
      go_simp
      obtain ⟨r4, hw4⟩ : ∃ w', w' = r3.alloc (.cells #[.slice a2 b.length c2] 22) := ⟨_, rfl⟩
      rw [← hw4]
      have F4 : Hid (Fr Non r3 r4) := Lib.hid (by rw [hw4]; exact Fr.alloc _ _)
      have R4 : Hid (Rows2 r4 (.slice (some ⟨r3.heap.size, 0, none⟩) 1 1) [b]) := Lib.hid (by rw [hw4]; exact Rows2.built (n := 1) (us := [.slice a2 b.length c2]) rfl rfl (by decide) rfl (all1 (HU.out.non (HF2.out.non ((Fr.drew _).non (F2.out.non F3.out))))))
      clear hw4
      refine hK.out _ _ (trivial) (fun hHeld => ?_)
      clear hK K
      refine wpAnyH_ready (rs := [5]) (by kernel_rfl) (by simp) ?_
      refine AllReadyH.cons (o := ⟨some 18, _, _, _, _, _⟩) rfl (fun K hK => ?_) (AllReadyH.nil)
      go_simp
      go_wp2_with (go_at_call 12; refine (macOp_any _ _ key [b] _ (HV.out.non (HF2.out.non ((Fr.drew _).non (F2.out.non (F3.out.non F4.out))))) hkl (R4.out.frame (Fr.refl _ _)) (by simp; omega) (by simpa using hbl) (HT.out.non (HF2.out.non ((Fr.drew _).non (F2.out.non (F3.out.non F4.out)))))).mono ?_; rintro e r5 ⟨rfl, hf5⟩)
      have F5 : Hid (Fr Non r4 r5) := Lib.hid hf5
      clear hf5
      refine hK.out _ _ (trivial) (fun hHeld => ?_)
      clear hK K
      refine wpAnyH_ready (rs := [9]) (by kernel_rfl) (by simp) ?_
      refine AllReadyH.cons (o := ⟨some 22, _, _, _, _, _⟩) rfl (fun K hK => ?_) (AllReadyH.nil)
      go_simp
      go_wp2_with (go_at_call 12; refine (macOp_any _ _ D [b] _ (HRD.out.non ((Fr.drew _).non (F2.out.non (F3.out.non (F4.out.non F5.out))))) (by rw [HD.out.2]; omega) (R8.out.frame (F4.out.non F5.out)) (by simp; omega) (by simpa using hbl) (HT.out.non (HF2.out.non ((Fr.drew _).non (F2.out.non (F3.out.non (F4.out.non F5.out))))))).mono ?_; rintro e r6 ⟨rfl, hf6⟩)
      rw [HD.out.1]
      have F6 : Hid (Fr Non r5 r6) := Lib.hid hf6
      clear hf6
      refine hK.out _ _ (trivial) (fun hHeld => ?_)
      clear hK K
      refine wpAnyH_takeL (i := 10) 23 (v := ?_) rfl rfl (by kernel_rfl) (by kernel_rfl) (by kernel_rfl) (fun _ _ _ h => h) (by assumption) (Or.inl ⟨by rfl, ?_⟩) ?_
      rotate_left
      · intro w hSw; go_simp; (try with_reducible rfl)
      simp only [List.set_cons_zero, List.set_cons_succ]
      refine wpAnyH_takeL (i := 11) 24 (v := ?_) rfl rfl (by kernel_rfl) (by kernel_rfl) (by kernel_rfl) (fun _ _ _ h => h) (by assumption) (Or.inl ⟨by rfl, ?_⟩) ?_
      rotate_left
      · intro w hSw; go_simp; (try with_reducible rfl)
      simp only [List.set_cons_zero, List.set_cons_succ]
      refine wpAnyH_takeL (i := 12) 4 (v := ?_) rfl rfl (by kernel_rfl) (by kernel_rfl) (by kernel_rfl) (fun _ _ _ h => h) (by assumption) (Or.inl ⟨by rfl, ?_⟩) ?_
      rotate_left
      · intro w hSw; go_simp; (try with_reducible rfl)
      simp only [List.set_cons_zero, List.set_cons_succ]
      refine wpAnyH_done (by kernel_rfl) ?_ _
      go_wp2_with fail
      go_ret
      exact ⟨rfl, HF2.out.non ((Fr.drew _).non (F2.out.non (F3.out.non (F4.out.non (F5.out.non F6.out)))))⟩
  · have hle : decide ((64 : Int) < (key.length : Int)) = false := by simp; omega
    go_enter Tryd.func8, Tryd.ntmps8
    go_wp2_with (at_builtin; refine wpList_appRow _ rfl (.tmp 25) (.tmp 26) 22 rfl W.heap.size 5 i0 (.int .u8 0) 1 Tryd.underlying22 HI.out rfl _ [] rfl (Own.empty _ _ _ (Nat.le_refl _)) _ (bs key) rfl (HV.out.non (Fr.alloc _ _)) (bs_one _) ⟨by rw [bs_length]; simp; omega, by omega⟩ (Fr.alloc _ _).size ?_)
    intro v1 w1 hown hfr hmv
    have HO1 : Hid (Own w1 W.heap.size 5 v1 (bs (key ++ List.replicate 0 0))) := Lib.hid (by simpa using hown)
    have HF1 : Hid (Fr Non W w1) := Lib.hid ((Fr.alloc _ _).new hfr (fun i hi => by cases hi; exact Nat.le_refl _))
    clear hown hfr hmv hlenv
    go_wp2_with fail
    go_loopw [6] (fun x wr => ∃ j : Nat, key.length + j ≤ 64 ∧ Own wr W.heap.size 5 x (bs (key ++ List.replicate j 0)) ∧ Fr Non W wr) (fun x _ => 64 - vlen x)
    case atStart => exact ⟨0, by omega, HO1.out, HF1.out⟩
    case round =>
      obtain ⟨j, hj, hown, hfr⟩ := hrel
      have hln : (key ++ List.replicate j (0 : UInt8)).length = key.length + j := by simp
      have hlen := run_lenRow (P := Tryd.prog) hown.row 22 5 Tryd.underlying22
      rw [bs_length, hln] at hlen
      have HO := Lib.hid hown
      have HFR := Lib.hid hfr
      have HLN := Lib.hid hln
      clear hown hfr hln
      by_cases hlt : key.length + j < 64
      · have hlt2 : ((key.length + j : Nat) : Int) < 64 := by omega
        go_wp2_with (at_builtin; refine wpList_push _ rfl (.tmp 31) (.tmp 32) 22 rfl W.heap.size 5 i0 (.int .u8 0) 1 Tryd.underlying22 HI.out rfl _ _ rfl HO.out _ _ rfl rfl ⟨by rw [bs_length, HLN.out]; omega, by omega⟩ HFR.out.size ?_)
        intro v3 w3 hown hfr3 hmv
        have HO3 : Hid (Own w3 W.heap.size 5 v3 (bs (key ++ List.replicate (j + 1) 0))) := Lib.hid (by
          have e : bs (key ++ List.replicate j 0) ++ [Value.int .u8 0] = bs (key ++ List.replicate (j + 1) 0) := by rw [List.replicate_succ', ← List.append_assoc, bs_snoc]; rfl
          rw [← e]; exact hown)
        have HF3 := Lib.hid (HFR.out.new hfr3 (fun i h => (HO.out.lt i h).1))
        clear hown hfr3 hmv
        go_wp2_with fail
        go_roundw
        case rel => exact ⟨j + 1, by omega, HO3.out, HF3.out⟩
        case measure => rw [HO3.out.vlen, HO.out.vlen, bs_length, bs_length, HLN.out]; simp; omega
      · have hje : j = 64 - key.length := by omega
        have hge : decide (((key.length + j : Nat) : Int) < 64) = false := by simp; omega
        have HMM : Hid (macSum (key ++ List.replicate j 0) b = macSum key b) := Lib.hid (by rw [hje]; exact macSum_more key b (by omega))
        have heq := eqD (macSum_length key b)
        clear hje
        go_wp2_with fail
        refine (shown4_any _ (HT.out.non HFR.out)).mono ?_
        rintro e w4 ⟨rfl, hf4⟩
        have HF4 := Lib.hid (HFR.out.non hf4)
        have HR4 := Lib.hid (HO.out.row.non hf4)
        clear hf4
        go_wp2_with fail
        refine (macOp_any _ _ key [b] _ ((HV.out.non HF4.out).non (Fr.alloc _ _)) hkl (Rows2.built (n := 1) (us := [.slice a2 b.length c2]) rfl rfl (by decide) rfl (all1 (HU.out.non HF4.out))) (by simp; omega) (by simpa using hbl) ((HT.out.non HF4.out).non (Fr.alloc _ _))).mono ?_
        rintro e w5 ⟨rfl, hf5⟩
        have HF5 := Lib.hid (HF4.out.non ((Fr.alloc _ _).non hf5))
        have HR5 := Lib.hid ((HR4.out.non (Fr.alloc _ _)).non hf5)
        clear hf5
        go_wp2_with fail
        refine (macOp_any _ _ (key ++ List.replicate j 0) [b] _ (HR5.out.non (Fr.alloc _ _)) (by have := HLN.out; omega) (Rows2.built (n := 1) (us := [.slice a2 b.length c2]) rfl rfl (by decide) rfl (all1 (HU.out.non HF5.out))) (by simp; omega) (by simpa using hbl) ((HT.out.non HF5.out).non (Fr.alloc _ _))).mono ?_
        rintro e w6 ⟨rfl, hf6⟩
        rw [show ([b] : List (List UInt8)).flatten = b by simp, HMM.out]
        go_wp2_with fail
        go_ret
        exact ⟨rfl, HF5.out.non ((Fr.alloc _ _).non hf6)⟩
end Go.Proofs.YtajknmapggkmnaaDoor
