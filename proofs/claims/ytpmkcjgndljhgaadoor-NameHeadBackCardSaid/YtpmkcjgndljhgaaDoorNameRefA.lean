/- package name, the document's: digits, names -/
import Derived.Test.YtpmkcjgndljhgaaDoorNameMath
import Derived.Test.YtpmkcjgndljhgaaDoorWords
namespace Go.Proofs.YtpmkcjgndljhgaaDoor
open Go.ChangeShapes Go.WideShapes Go.ChangeAt Go.RowKit


set_option maxRecDepth 100000 in
theorem refDigits_any (n : Nat) (w : World) (hn : n < 18446744073709551616) :
    Calls Tryd.prog 26 #[.int .u64 n] w fun e w' => e = .returned (.string ⟨(digs 6 n).toArray⟩) ∧ Fr Non w w' := by
  have HL := Lib.hid (digs_length_le 6 20 n (by omega) (by omega))
  have HN := Lib.hid hn
  clear hn
  go_enter Tryd.func26, Tryd.ntmps26
  go_wp2_with fail
  go_loopw [0, 3] (fun n' s' wr => ∃ (r : Nat) (s : ByteArray), n' = .int .u64 r ∧ r < 18446744073709551616 ∧ s' = .string s ∧ digs (6 - s.size) r ++ s.data.toList = digs 6 n ∧ Fr Non w wr) (fun n' s' _ => (intOf n').toNat + (6 - (match s' with | .string s => s.size | _ => 0)))
  case atStart => exact ⟨n, ⟨#[]⟩, rfl, HN.out, rfl, by rw [show (⟨#[]⟩ : ByteArray).size = 0 from rfl]; simp, Fr.refl _ _⟩
  case round =>
    obtain ⟨r, s, rfl, hr, rfl, hs, hfr⟩ := hrel
    have hsz : s.size = s.data.toList.length := by rw [Array.length_toList]; rfl
    have h20 : s.size ≤ 20 := by have := congrArg List.length hs; rw [List.length_append] at this; have := HL.out; omega
    have HS := Lib.hid hs
    have HZ := Lib.hid hsz
    clear hs hsz
    have hc : bs [digC r] = [Value.int .u8 (48 + (r : Int) % 10)] := by
      rw [bs_single, digC_toNat]; simp
    have hrow := Row.built wr (bs [digC r]) 5 1 rfl (by decide)
    have hstr := run_str (P := Tryd.prog) _ 33 9 5 _ _ hrow Tryd.underlying33 Tryd.underlying5 Tryd.underlying9
    rw [hc] at hstr
    obtain ⟨D, hD⟩ : ∃ D : ByteArray, D = ⟨[digC r].toArray⟩ := ⟨_, rfl⟩
    have hDs : D.size = 1 := by rw [hD]; rfl
    rw [← hD] at hstr
    have HD := Lib.hid hD
    have HDs := Lib.hid hDs
    have step (h : 0 < r ∨ s.size < 6) : digs (6 - (D ++ s).size) (r / 10) ++ (D ++ s).data.toList = digs 6 n := by
      rw [← HS.out, digs_step (k := 6 - s.size) (n := r) (by omega), ByteArray.size_append, hDs, show 6 - (1 + s.size) = 6 - s.size - 1 by omega, ByteArray.data_append, Array.toList_append, hD, List.append_assoc]
    have HT := Lib.hid step
    clear hrow hc hD step
    by_cases h0 : (0 : Int) < r
    · go_wp2_with fail
      go_roundw
      case rel => exact ⟨r / 10, D ++ s, by go_num, by omega, rfl, HT.out (.inl (by omega)), hfr.non (Fr.alloc _ _)⟩
      case measure => simp only [ByteArray.size_append]; simp [intOf]; omega
    · by_cases h6 : (s.size : Int) < 6
      · obtain rfl : r = 0 := by omega
        rw [show (48 + ((0 : Nat) : Int) % 10) = 48 from rfl] at hstr
        go_wp2_with fail
        go_roundw
        case rel => exact ⟨0 / 10, D ++ s, by go_num, by omega, rfl, HT.out (.inr (by omega)), hfr.non (Fr.alloc _ _)⟩
        case measure => simp only [ByteArray.size_append]; simp [intOf]; omega
      · go_wp2_with fail
        go_ret
        refine ⟨?_, hfr⟩
        have h := HS.out
        rw [show r = 0 by omega, show 6 - s.size = 0 by omega, digs_zero, List.nil_append] at h
        rw [← h]
        show Ending.returned (.string s) = _
        rw [Array.toArray_toList]

set_option maxRecDepth 100000 in
theorem refName_any (kind n : Nat) (w : World) (hk : kind < 256) (hn : n < 18446744073709551616) :
    Calls Tryd.prog 12 #[.int .u8 kind, .int .u64 n] w fun e w' => e = .returned (.string ⟨(nmName kind n).toArray⟩) ∧ Fr Non w w' := by
  obtain ⟨D, hD⟩ : ∃ D : ByteArray, D = ⟨(digs 6 n).toArray⟩ := ⟨_, rfl⟩
  have hDs : D.size ≤ 20 := by rw [hD]; exact digs_length_le 6 20 n (by omega) (by omega)
  have HD := Lib.hid hD
  have HN := Lib.hid hn
  have call (w : World) := refDigits_any n w hn
  rw [← hD] at call
  have HC := Lib.hid call
  clear hn hD call
  go_enter Tryd.func12, Tryd.ntmps12
  by_cases h1 : kind = 1
  · subst h1
    go_wp2_with (go_at_call 26; refine (HC.out _).mono ?_; rintro e w1 ⟨rfl, hf⟩)
    go_ret
    exact ⟨by rw [HD.out]; rfl, hf⟩
  by_cases h2 : kind = 2
  · subst h2
    go_wp2_with (go_at_call 26; refine (HC.out _).mono ?_; rintro e w1 ⟨rfl, hf⟩)
    go_ret
    exact ⟨by rw [HD.out]; rfl, hf⟩
  by_cases h3 : kind = 3
  · subst h3
    go_wp2_with (go_at_call 26; refine (HC.out _).mono ?_; rintro e w1 ⟨rfl, hf⟩)
    go_ret
    exact ⟨by rw [HD.out]; rfl, hf⟩
  by_cases h4 : kind = 4
  · subst h4
    go_wp2
    go_ret
    exact ⟨rfl, Fr.refl _ _⟩
  by_cases h5 : kind = 5
  · subst h5
    go_wp2
    go_ret
    exact ⟨rfl, Fr.refl _ _⟩
  have E : nmName kind n = [] := by simp [nmName, h1, h2, h3, h4, h5]
  have HE := Lib.hid E
  have i1 : ((kind : Int) == 1) = false := by simp; omega
  have i2 : ((kind : Int) == 2) = false := by simp; omega
  have i3 : ((kind : Int) == 3) = false := by simp; omega
  have i4 : ((kind : Int) == 4) = false := by simp; omega
  have i5 : ((kind : Int) == 5) = false := by simp; omega
  clear E h1 h2 h3 h4 h5
  go_wp2
  go_ret
  exact ⟨by rw [HE.out]; rfl, Fr.refl _ _⟩

set_option maxRecDepth 100000 in
theorem refValue_any (s : ByteArray) (w : World) (hs : s.size ≤ 140737488355328) :
    Calls Tryd.prog 28 #[.string s] w fun e w' => e = .returned (.int .u64 (valW s.data.toList)) ∧ Fr Non w w' := by
  go_enter Tryd.func28, Tryd.ntmps28
  go_wp2_with fail
  go_loopw [3, 4] (fun n' i' wr => ∃ (q i : Nat), n' = .int .u64 q ∧ q < 18446744073709551616 ∧ i' = .int .i64 i ∧ i ≤ s.size ∧ valP q (s.data.toList.drop i) % 18446744073709551616 = valW s.data.toList ∧ Fr Non w wr) (fun _ i' _ => s.size - (intOf i').toNat)
  case atStart => exact ⟨0, 0, rfl, by omega, rfl, by omega, rfl, Fr.refl _ _⟩
  case round =>
    obtain ⟨q, i, rfl, hq, rfl, hi, hv, hfr⟩ := hrel
    have HV := Lib.hid hv
    clear hv
    by_cases hlt : (i : Int) < s.size
    · have hl : i < s.data.toList.length := by rw [Array.length_toList]; show i < s.size; omega
      have hd : s.data.toList.drop i = s[i] :: s.data.toList.drop (i + 1) := List.drop_eq_getElem_cons hl
      have HDr := Lib.hid hd
      clear hd
      go_wp2_with fail
      case roundEnd =>
        rename_i c1 c2
        refine ⟨⟨(q * 10 + (s[i].toNat - 48)) % 18446744073709551616, i + 1, ?_, Nat.mod_lt _ (by omega), rfl, by omega, ?_, hfr⟩, by simp [intOf]; omega⟩
        · rw [u64_wrap, u64_wrap]
          have e : (((q * 10 + (s[i].toNat - 48)) % 18446744073709551616 : Nat) : Int) = ((q : Int) * 10 % 18446744073709551616 + ((s[i].toNat : Int) - 48)) % 18446744073709551616 := by omega
          rw [e]
        · have hv := HV.out
          rw [HDr.out] at hv
          simp only [valP, if_pos (show isDig s[i] from ⟨by omega, by omega⟩)] at hv
          rw [← hv]
          exact valP_mod _ _ _ (Nat.mod_mod _ _)
      · rename_i c1 c2
        go_ret
        have hv := HV.out
        rw [HDr.out] at hv
        simp only [valP, if_neg (show ¬ isDig s[i] from fun h => by have := h.2; omega), Nat.mod_eq_of_lt hq] at hv
        rw [← hv]
        exact ⟨rfl, hfr⟩
      · rename_i c1
        go_ret
        have hv := HV.out
        rw [HDr.out] at hv
        simp only [valP, if_neg (show ¬ isDig s[i] from fun h => by have := h.1; omega), Nat.mod_eq_of_lt hq] at hv
        rw [← hv]
        exact ⟨rfl, hfr⟩
    · go_wp2_with fail
      go_ret
      have hv := HV.out
      rw [List.drop_of_length_le (by rw [Array.length_toList]; show s.size ≤ i; omega)] at hv
      simp only [valP, Nat.mod_eq_of_lt hq] at hv
      rw [← hv]
      exact ⟨rfl, hfr⟩
end Go.Proofs.YtpmkcjgndljhgaaDoor
