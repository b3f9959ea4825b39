/- package name, the document's: Parse -/
import Derived.Test.YtpmkcjgndljhgaaDoorNameRefA
import Derived.Test.YtpmkcjgndljhgaaDoorNamePar
namespace Go.Proofs.YtpmkcjgndljhgaaDoor
open Go.ChangeShapes Go.WideShapes Go.ChangeAt Go.RowKit

set_option maxRecDepth 100000 in
theorem refParse_any (s : ByteArray) (w : World) (hs : s.size ≤ 140737488355328) :
    Calls Tryd.prog 14 #[.string s] w fun e w' => ParsedR s.data.toList e ∧ Fr Non w w' := by
  go_enter Tryd.func14, Tryd.ntmps14
  go_wp2_with fail
  go_loopw [5] (fun k' wr => ∃ k : Nat, k' = .int .u8 k ∧ 1 ≤ k ∧ k ≤ 6 ∧ (∀ j, 1 ≤ j → j < k → nmName j (nmTry s.data.toList j) ≠ s.data.toList) ∧ Fr Non w wr) (fun k' _ => 6 - (intOf k').toNat)
  case atStart => exact ⟨1, rfl, by omega, by omega, fun j h1 h2 => by omega, Fr.refl _ _⟩
  case round =>
    obtain ⟨k, rfl, hk1, hk6, hno, hfr⟩ := hrel
    have HNo := Lib.hid hno
    clear hno
    by_cases hlt : (k : Int) ≤ 5
    · obtain ⟨T, hT⟩ : ∃ T, nmTry s.data.toList k = T := ⟨_, rfl⟩
      have hT64 : T < 18446744073709551616 := by rw [← hT]; exact nmTry_lt _ _
      obtain ⟨D, hD⟩ : ∃ D : ByteArray, (⟨(nmName k T).toArray⟩ : ByteArray) = D := ⟨_, rfl⟩
      have name (w : World) := refName_any k T w (by omega) hT64
      rw [hD] at name
      have yes (h : D = s) : IsName s.data.toList k T := (isName_iff _ k hk1 (by omega)).mpr (by rw [hT, ← h, ← hD]) |>.elim fun n h => by have := h.tried; rw [hT] at this; rw [this]; exact h
      have no (h : ¬ D = s) : nmName k (nmTry s.data.toList k) ≠ s.data.toList := fun e => h (by rw [← hD, ← hT, e])
      have HT := Lib.hid hT
      have HNm := Lib.hid name
      have HY := Lib.hid yes
      have HN := Lib.hid no
      clear hT hD name yes no
      rcases (show 3 < k ∨ (k = 3 ∧ 9 < s.size) ∨ (k = 3 ∧ ¬ 9 < s.size) ∨ k < 3 by omega) with h | ⟨rfl, h⟩ | ⟨rfl, h⟩ | h
      · have e := HT.out
        unfold nmTry at e
        rw [if_pos h] at e
        subst e
        have h' : (3 : Int) < k := by omega
        by_cases hd : D = s
        · go_wp2_with (first | (go_at_call 28; refine (refValue_any _ _ (by first | omega | (simp only [ByteArray.size_extract]; omega))).mono ?_; rintro e w1 ⟨rfl, hf1⟩) | (go_at_call 12; refine (HNm.out _).mono ?_; rintro e w2 ⟨rfl, hf2⟩) | fail)
          go_ret3
          exact ⟨⟨k, 0, true, rfl, .inl ⟨rfl, HY.out hd⟩⟩, (hfr.non hf1).non hf2⟩
        · have qf : (D.toList == s.toList) = false := beq_toList_ne hd
          have hno := HN.out hd
          have HNn := Lib.hid hno
          clear hno
          go_wp2_with (first | (go_at_call 28; refine (refValue_any _ _ (by first | omega | (simp only [ByteArray.size_extract]; omega))).mono ?_; rintro e w1 ⟨rfl, hf1⟩) | (go_at_call 12; refine (HNm.out _).mono ?_; rintro e w2 ⟨rfl, hf2⟩) | fail)
          refine ⟨⟨k + 1, by go_num, by omega, by omega, fun j h1 h2 => ?_, (hfr.non hf1).non hf2⟩, by simp [intOf] <;> omega⟩
          by_cases hj : j = k
          · subst hj; exact HNn.out
          · exact HNo.out j h1 (by omega)
      · have e := HT.out
        unfold nmTry at e
        rw [if_neg (by omega), if_pos ⟨rfl, by rw [Array.length_toList]; exact h⟩, ← extract_drop] at e
        have HE := Lib.hid e
        clear e
        have h' : (9 : Int) < s.size := by omega
        by_cases hd : D = s
        · go_wp2_with (first | ((with_reducible show Calls _ _ #[Value.string (ByteArray.extract _ _ _)] _ _); go_at_call 28; refine (refValue_any _ _ (by first | omega | (simp only [ByteArray.size_extract]; omega))).mono ?_; rintro e w1 ⟨rfl, hf1'⟩; rw [HE.out]) | (go_at_call 28; refine (refValue_any _ _ (by first | omega | (simp only [ByteArray.size_extract]; omega))).mono ?_; rintro e w1 ⟨rfl, hf1⟩) | (go_at_call 12; refine (HNm.out _).mono ?_; rintro e w2 ⟨rfl, hf2⟩) | fail)
          go_ret3
          exact ⟨⟨3, T, true, rfl, .inl ⟨rfl, HY.out hd⟩⟩, ((hfr.non hf1).non hf1').non hf2⟩
        · have qf : (D.toList == s.toList) = false := beq_toList_ne hd
          have hno := HN.out hd
          have HNn := Lib.hid hno
          clear hno
          go_wp2_with (first | ((with_reducible show Calls _ _ #[Value.string (ByteArray.extract _ _ _)] _ _); go_at_call 28; refine (refValue_any _ _ (by first | omega | (simp only [ByteArray.size_extract]; omega))).mono ?_; rintro e w1 ⟨rfl, hf1'⟩; rw [HE.out]) | (go_at_call 28; refine (refValue_any _ _ (by first | omega | (simp only [ByteArray.size_extract]; omega))).mono ?_; rintro e w1 ⟨rfl, hf1⟩) | (go_at_call 12; refine (HNm.out _).mono ?_; rintro e w2 ⟨rfl, hf2⟩) | fail)
          refine ⟨⟨3 + 1, by go_num, by omega, by omega, fun j h1 h2 => ?_, ((hfr.non hf1).non hf1').non hf2⟩, by simp [intOf] <;> omega⟩
          by_cases hj : j = 3
          · subst hj; exact HNn.out
          · exact HNo.out j h1 (by omega)
      · have e := HT.out
        unfold nmTry at e
        rw [if_neg (by omega), if_neg (by rintro ⟨-, h2⟩; rw [Array.length_toList] at h2; exact h h2)] at e
        have HE := Lib.hid e
        clear e
        have h' : ¬ (9 : Int) < s.size := by omega
        by_cases hd : D = s
        · go_wp2_with (first | (go_at_call 28; refine (refValue_any _ _ (by first | omega | (simp only [ByteArray.size_extract]; omega))).mono ?_; rintro e w1 ⟨rfl, hf1⟩; rw [HE.out]) | (go_at_call 12; refine (HNm.out _).mono ?_; rintro e w2 ⟨rfl, hf2⟩) | fail)
          go_ret3
          exact ⟨⟨3, T, true, rfl, .inl ⟨rfl, HY.out hd⟩⟩, (hfr.non hf1).non hf2⟩
        · have qf : (D.toList == s.toList) = false := beq_toList_ne hd
          have hno := HN.out hd
          have HNn := Lib.hid hno
          clear hno
          go_wp2_with (first | (go_at_call 28; refine (refValue_any _ _ (by first | omega | (simp only [ByteArray.size_extract]; omega))).mono ?_; rintro e w1 ⟨rfl, hf1⟩; rw [HE.out]) | (go_at_call 12; refine (HNm.out _).mono ?_; rintro e w2 ⟨rfl, hf2⟩) | fail)
          refine ⟨⟨3 + 1, by go_num, by omega, by omega, fun j h1 h2 => ?_, (hfr.non hf1).non hf2⟩, by simp [intOf] <;> omega⟩
          by_cases hj : j = 3
          · subst hj; exact HNn.out
          · exact HNo.out j h1 (by omega)
      · have e := HT.out
        unfold nmTry at e
        rw [if_neg (by omega), if_neg (by omega)] at e
        have HE := Lib.hid e
        clear e
        have h' : ¬ (3 : Int) < k := by omega
        have h3 : ((k : Int) == 3) = false := by simp; omega
        by_cases hd : D = s
        · go_wp2_with (first | (go_at_call 28; refine (refValue_any _ _ (by first | omega | (simp only [ByteArray.size_extract]; omega))).mono ?_; rintro e w1 ⟨rfl, hf1⟩; rw [HE.out]) | (go_at_call 12; refine (HNm.out _).mono ?_; rintro e w2 ⟨rfl, hf2⟩) | fail)
          go_ret3
          exact ⟨⟨k, T, true, rfl, .inl ⟨rfl, HY.out hd⟩⟩, (hfr.non hf1).non hf2⟩
        · have qf : (D.toList == s.toList) = false := beq_toList_ne hd
          have hno := HN.out hd
          have HNn := Lib.hid hno
          clear hno
          go_wp2_with (first | (go_at_call 28; refine (refValue_any _ _ (by first | omega | (simp only [ByteArray.size_extract]; omega))).mono ?_; rintro e w1 ⟨rfl, hf1⟩; rw [HE.out]) | (go_at_call 12; refine (HNm.out _).mono ?_; rintro e w2 ⟨rfl, hf2⟩) | fail)
          refine ⟨⟨k + 1, by go_num, by omega, by omega, fun j h1 h2 => ?_, (hfr.non hf1).non hf2⟩, by simp [intOf] <;> omega⟩
          by_cases hj : j = k
          · subst hj; exact HNn.out
          · exact HNo.out j h1 (by omega)
    · go_wp2_with fail
      go_ret3
      refine ⟨⟨0, 0, false, rfl, .inr ⟨rfl, rfl, rfl, fun j n h => ?_⟩⟩, hfr⟩
      exact HNo.out j h.1 (by have := h.2.1; omega) ((isName_iff _ j h.1 h.2.1).mp ⟨n, h⟩)
end Go.Proofs.YtpmkcjgndljhgaaDoor
