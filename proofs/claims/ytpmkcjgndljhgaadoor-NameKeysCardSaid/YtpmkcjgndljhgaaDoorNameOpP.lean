/- package name: what the digits of a text tell, gone through as runes; what a text is the name of -/
import Derived.Test.YtpmkcjgndljhgaaDoorNameNumA
import Derived.Test.YtpmkcjgndljhgaaDoorGroundA
import Derived.Laws.RangeAny

namespace Go.Proofs.YtpmkcjgndljhgaaDoor
open Go.ChangeShapes Go.WideShapes Go.ChangeAt Go.RowKit

set_option maxRecDepth 100000 in
theorem number_any (s : ByteArray) (w : World) :
    Calls Tryd.prog 27 #[.string s] w fun e w' => e = .returned (.int .u64 (numW 0 s.data.toList)) ∧ Fr Non w w' := by
  have hll : s.data.toList.length = s.size := by rw [Array.length_toList]; rfl
  have HLL := Lib.hid hll
  clear hll
  go_enter Tryd.func27, Tryd.ntmps27
  go_wp2_with fail
  go_loopw [3] (fun n' wr => ∃ q i : Nat, n' = .int .u64 q ∧ q < 18446744073709551616 ∧ i ≤ s.size ∧ numW 0 (s.data.toList.take i) = q ∧ wr = w.iter s i) (fun _ wr => s.size - wr.iterPos w.heap.size)
  case atStart => exact ⟨0, 0, rfl, by omega, by omega, rfl, rfl⟩
  case round =>
    obtain ⟨q, i, rfl, hq, hi, hv, rfl⟩ := hrel
    by_cases hlt : i < s.size
    · by_cases h128 : s[i].toNat < 128
      · have hnext := fun ty => run_next_ascii (P := Tryd.prog) w s i ty hlt h128
        have hb := numW_byte hlt
        rw [hv] at hb
        by_cases hdg : 48 ≤ s[i].toNat ∧ s[i].toNat ≤ 57
        · rw [if_pos (show isDig s[i] from hdg)] at hb
          have HB := Lib.hid hb
          clear hb hv
          obtain ⟨d, hdd⟩ : ∃ d, s[i].toNat = 48 + d := ⟨s[i].toNat - 48, by omega⟩
          go_wp2_with fail
          refine ⟨⟨(10 * q + d) % 18446744073709551616, i + 1, ?_, Nat.mod_lt _ (by omega), by omega, by rw [HB.out, hdd, Nat.add_sub_cancel_left], rfl⟩, by rw [World.iterPos_iter, World.iterPos_iter]; omega⟩
          rw [u64_wrap, u64_wrap]
          congr 1
          omega
        · rw [if_neg (show ¬ isDig s[i] from hdg)] at hb
          have HB := Lib.hid hb
          clear hb hv
          go_wp2_with fail
          all_goals exact ⟨⟨q, i + 1, rfl, hq, by omega, HB.out, rfl⟩, by rw [World.iterPos_iter, World.iterPos_iter]; omega⟩
      · have hnext := fun ty => run_next_any (P := Tryd.prog) w s i ty hlt
        have hh := decode_high s i hlt (by omega)
        have hle := decode_le s i
        obtain ⟨hw1, hw2⟩ := decode_bytes s i hlt (by omega)
        have hsk := numW_skip hw1 hw2
        rw [hv] at hsk
        clear hw2 hv
        generalize Utf8.decode s i = rn at hnext hh hle hw1 hsk
        obtain ⟨r, n⟩ := rn
        simp only [] at hh hle hnext hw1 hsk
        have HSK := Lib.hid hsk
        clear hsk
        go_wp2_with fail
        all_goals exact ⟨⟨q, i + n, rfl, hq, by omega, HSK.out, rfl⟩, by rw [World.iterPos_iter, World.iterPos_iter]; omega⟩
    · have hnext := fun ty => run_next_end (P := Tryd.prog) w s i ty hlt
      have e : s.data.toList.take i = s.data.toList := List.take_of_length_le (by rw [HLL.out]; omega)
      rw [e] at hv
      have HV := Lib.hid hv
      clear hv e
      go_wp2_with fail
      go_ret
      exact ⟨by rw [HV.out]; rfl, Fr.alloc _ _⟩

set_option maxRecDepth 100000 in
theorem parse_any (s : ByteArray) (w : World) (ht : PowT w) :
    Calls Tryd.prog 13 #[.string s] w fun e w' => ParsedR s.data.toList e ∧ Fr Non w w' := by
  have HT := Lib.hid ht
  obtain ⟨T, hT⟩ : ∃ T, numW 0 s.data.toList = T := ⟨_, rfl⟩
  have hT64 : T < 18446744073709551616 := by rw [← hT]; exact numW_lt _ 0 (by omega)
  have hn (w : World) := number_any s w
  rw [hT] at hn
  have HNu := Lib.hid hn
  have HTe := Lib.hid hT
  clear ht hn hT
  go_enter Tryd.func13, Tryd.ntmps13
  go_wp2_with (go_at_call 27; refine (HNu.out _).mono ?_; rintro e w1 ⟨rfl, hf1⟩)
  have F1 := Lib.hid hf1
  clear hf1
  go_loopw [6] (fun k' wr => ∃ k : Nat, k' = .int .u8 k ∧ 1 ≤ k ∧ k ≤ 6 ∧ (∀ j, 1 ≤ j → j < k → nmName j T ≠ s.data.toList) ∧ Fr Non w wr) (fun k' _ => 6 - (intOf k').toNat)
  case atStart => exact ⟨1, rfl, by omega, by omega, fun j h1 h2 => by omega, F1.out⟩
  case round =>
    obtain ⟨k, rfl, hk1, hk6, hno, hfr⟩ := hrel
    have HNo := Lib.hid hno
    clear hno
    by_cases hlt : (k : Int) ≤ 5
    · obtain ⟨D, hD⟩ : ∃ D : ByteArray, (⟨(nmName k T).toArray⟩ : ByteArray) = D := ⟨_, rfl⟩
      have name (w : World) (ht : PowT w) := name_any k T w (by omega) hT64 ht
      rw [hD] at name
      have yes (h : D = s) : IsName s.data.toList k T := by
        have e : nmName k (numW 0 s.data.toList) = s.data.toList := by rw [HTe.out, ← h, ← hD]
        have := isName_numIs hk1 (by omega) e
        rwa [HTe.out] at this
      have no (h : ¬ D = s) : nmName k T ≠ s.data.toList := fun e => h (by rw [← hD, e])
      have HNm := Lib.hid name
      have HY := Lib.hid yes
      have HN := Lib.hid no
      clear hD name yes no
      by_cases hd : D = s
      · go_wp2_with (go_at_call 11; refine (HNm.out _ (HT.out.tf hfr)).mono ?_; rintro e w2 ⟨rfl, hf2⟩)
        go_ret3
        exact ⟨⟨k, T, true, rfl, .inl ⟨rfl, HY.out hd⟩⟩, hfr.non hf2⟩
      · have qf : (D.toList == s.toList) = false := beq_toList_ne hd
        have hno := HN.out hd
        have HNn := Lib.hid hno
        clear hno
        go_wp2_with (go_at_call 11; refine (HNm.out _ (HT.out.tf hfr)).mono ?_; rintro e w2 ⟨rfl, hf2⟩)
        refine ⟨⟨k + 1, by go_num, by omega, by omega, fun j h1 h2 => ?_, hfr.non hf2⟩, by simp [intOf] <;> omega⟩
        by_cases hj : j = k
        · subst hj; exact HNn.out
        · exact HNo.out j h1 (by omega)
    · go_wp2_with fail
      go_ret3
      refine ⟨⟨0, 0, false, rfl, .inr ⟨rfl, rfl, rfl, fun j n h => ?_⟩⟩, hfr⟩
      refine HNo.out j h.1 (by have := h.2.1; omega) ?_
      rw [← HTe.out, h.num]
      exact h.2.2.2.2
end Go.Proofs.YtpmkcjgndljhgaaDoor
