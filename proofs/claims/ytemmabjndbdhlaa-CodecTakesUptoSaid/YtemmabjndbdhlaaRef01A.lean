/- the document's answers of layer 1: what lays -/
import Derived.Test.YtemmabjndbdhlaaCodecMath
namespace Go.Proofs.Ytemmabjndbdhlaa
open Go.ChangeShapes Go.WideShapes Go.ChangeAt Go.RowKit

set_option maxRecDepth 100000 in
theorem groups_any (n : Nat) (w : World) (hn : n < 18446744073709551616) :
    Calls Try.prog 29 #[.int .u64 n] w fun e w' => e = .returned (.int .i64 (enc n).length) ∧ w = w' := by
  have HN := Lib.hid hn
  clear hn
  go_enter Try.func29, Try.ntmps29
  go_wp2
  go_loop [0, 3] (fun n' k' => ∃ f m k : Nat, n' = .int .u64 m ∧ k' = .int .i64 k ∧ m < 18446744073709551616 ∧ m < 128 ^ (f + 1) ∧ k + (encF f m).length = (enc n).length + 1) (fun n' _ => (intOf n').toNat)
  case atStart => exact ⟨9, n, 1, rfl, rfl, HN.out, by have := HN.out; omega, by unfold enc; omega⟩
  case round =>
    obtain ⟨f, m, k, rfl, rfl, hm64, hm, hk⟩ := hrel
    have hl := enc_length n
    have HM := Lib.hid hm
    have hk10 : k ≤ 11 := by omega
    have HK := Lib.hid hk
    clear hm hk
    by_cases h : m < 128
    · go_wp2
      go_ret
      have hk := HK.out
      rw [encF_small _ _ h] at hk
      simp only [List.length_singleton] at hk
      have e : k = (enc n).length := by omega
      rw [← e]
      exact ⟨rfl, rfl⟩
    · go_wp2
      go_round
      case rel =>
        have hm := HM.out
        have hk := HK.out
        match f, hm, hk with
        | 0, hm, hk => omega
        | f + 1, hm, hk =>
          refine ⟨f, m / 128, k + 1, by go_num, by go_num, by omega, ?_, ?_⟩
          · rw [Nat.div_lt_iff_lt_mul (by omega)]; rw [Nat.pow_succ] at hm; exact hm
          · simp only [encF] at hk; rw [if_neg h, List.length_cons] at hk; omega
      case measure => simp [intOf]; omega

set_option maxRecDepth 100000 in
theorem refNum_any (n : Nat) (w : World) (hn : n < 18446744073709551616) :
    Calls Try.prog 13 #[.int .u64 n] w fun e w' => ∃ v, e = .returned v ∧ Own w' w.heap.size 5 v (bs (enc n)) ∧ Fr Non w w' := by
  obtain ⟨i0, hi⟩ := info_parts Try.info5
  have HN := Lib.hid hn
  clear hn
  go_enter Try.func13, Try.ntmps13
  go_wp2_with (go_at_call 29; refine (groups_any n _ HN.out).mono ?_; rintro e w' ⟨rfl, rfl⟩)
  obtain ⟨L, hL⟩ : ∃ L, L = (enc n).length := ⟨_, rfl⟩
  rw [← hL]
  have hL10 : L ≤ 10 := by rw [hL]; exact enc_length n
  have HL := Lib.hid hL
  clear hL
  go_loopw [0, 3, 5] (fun n' v i wr => ∃ (done rest : List UInt8) (f m : Nat), n' = .int .u64 m ∧ m < 18446744073709551616 ∧ i = .int .i64 done.length ∧ enc n = done ++ rest ∧ (rest = [] ∨ rest = encF f m ∧ m < 128 ^ (f + 1)) ∧ Own wr w.heap.size 5 v (bs done) ∧ Fr Non w wr) (fun _ _ i _ => L - (intOf i).toNat)
  case atStart => exact ⟨[], enc n, 9, n, rfl, HN.out, rfl, rfl, .inr ⟨rfl, by have := HN.out; omega⟩, Own.nil _ _ _, Fr.refl _ _⟩
  case round =>
    obtain ⟨done, rest, f, m, rfl, hm64, rfl, he, hr, hown, hfr⟩ := hrel
    have hlen : done.length + rest.length = L := by have := HL.out; rw [he, List.length_append] at this; omega
    obtain ⟨d, hd⟩ : ∃ d, d = done.length := ⟨_, rfl⟩
    rw [← hd] at hlen ⊢
    have HD := Lib.hid hd
    have HE := Lib.hid he
    clear hd he
    by_cases hlt : d < L
    · have hr' : rest = encF f m ∧ m < 128 ^ (f + 1) := by
        rcases hr with rfl | h
        · simp at hlen; omega
        · exact h
      clear hr
      obtain ⟨rfl, hm⟩ := hr'
      have HM := Lib.hid hm
      clear hm
      by_cases h : m < 128
      · rw [encF_small _ _ h] at hlen
        simp only [List.length_singleton] at hlen
        have hd1 : ¬ d + 1 < L := by omega
        have hd2 : d + 1 ≤ L := by omega
        clear hlen
        go_wp2_with (at_builtin; refine wpList_push _ rfl (.tmp 23) (.tmp 25) 22 rfl w.heap.size 5 i0 (.int .u8 0) 1 Try.underlying22 hi rfl _ _ rfl hown _ _ rfl rfl ?c1 hfr.size ?_)
        case c1 => rw [bs_length, ← HD.out]; omega
        intro v' w1 hown' hfr' hmv
        go_wp2
        go_roundw
        case rel =>
          refine ⟨done ++ [UInt8.ofNat m], [], f, m / 128, by go_num, by omega, by simp [HD.out], ?_, .inl rfl, ?_, hfr.new hfr' (fun k hk => (Own.lt hown k hk).1)⟩
          · rw [HE.out, encF_small _ _ h]; simp
          · rw [bs_append, bs_single, ofNat_toNat _ (by omega)]
            have e : ((m : Int) % 128) = (m : Int) := by omega
            simpa [e] using hown'
        case measure => simp [intOf]; omega
      · match f, HM with
        | 0, HM => exact absurd HM.out (by omega)
        | f + 1, HM =>
          have he2 : encF (f + 1) m = UInt8.ofNat (m % 128 + 128) :: encF f (m / 128) := by simp only [encF]; rw [if_neg h]
          have hp : 0 < (encF f (m / 128)).length := by cases f <;> simp only [encF] <;> (try split) <;> simp
          rw [he2, List.length_cons] at hlen
          have hd1 : d + 1 < L := by omega
          have HE2 := Lib.hid he2
          clear hlen hp he2
          go_wp2_with (at_builtin; refine wpList_push _ rfl (.tmp 23) (.tmp 25) 22 rfl w.heap.size 5 i0 (.int .u8 0) 1 Try.underlying22 hi rfl _ _ rfl hown _ _ rfl rfl ?c2 hfr.size ?_)
          case c2 => rw [bs_length, ← HD.out]; omega
          intro v' w1 hown' hfr' hmv
          go_wp2
          go_roundw
          case rel =>
            refine ⟨done ++ [UInt8.ofNat (m % 128 + 128)], encF f (m / 128), f, m / 128, by go_num, by omega, by simp [HD.out], ?_, .inr ⟨rfl, ?_⟩, ?_, hfr.new hfr' (fun k hk => (Own.lt hown k hk).1)⟩
            · rw [HE.out, HE2.out]; simp
            · have hm := HM.out; rw [Nat.div_lt_iff_lt_mul (by omega)]; rw [Nat.pow_succ] at hm; exact hm
            · rw [bs_append, bs_single, ofNat_toNat _ (by omega)]
              have e : ((m % 128 + 128 : Nat) : Int) = (m : Int) % 128 + 128 := by omega
              rw [e]
              exact hown'
          case measure => simp [intOf]; omega
    · go_wp2
      go_ret
      have hr0 : rest = [] := List.eq_nil_of_length_eq_zero (by omega)
      subst hr0
      have := HE.out
      rw [List.append_nil] at this
      rw [this]
      exact ⟨_, rfl, hown, hfr⟩

set_option maxRecDepth 100000 in
theorem refStr_any (s : ByteArray) (w : World) (hs : s.size ≤ 140737488355290) :
    Calls Try.prog 14 #[.string s] w fun e w' => ∃ v, e = .returned v ∧ Own w' w.heap.size 5 v (bs (encStr s.data.toList)) ∧ Fr Non w w' := by
  obtain ⟨i0, hi⟩ := info_parts Try.info5
  go_enter Try.func14, Try.ntmps14
  go_wp2_with fail
  refine (refNum_any s.size w (by omega)).mono ?_
  rintro e w1 ⟨v1, rfl, ho1, hf1⟩
  obtain ⟨v2, w2, hrun, hrow, hf2⟩ := run_toBytes (P := Try.prog) w1 9 22 5 s Try.underlying9 Try.underlying22 Try.underlying5 (by omega)
  have ho2 := ho1.non hf2
  have hel := enc_length s.size
  have hz1 := hf1.size
  have hz2 := hf2.size
  clear ho1
  go_wp2_with (at_builtin; refine wpList_appRow _ rfl (.tmp 8) (.tmp 10) 22 rfl w.heap.size 5 i0 (.int .u8 0) 1 Try.underlying22 hi rfl _ _ rfl ho2 _ _ rfl hrow (bs_one _) ?c1 ?c2 ?_)
  case c1 => rw [bs_length, bs_length]; have e : s.data.toList.length = s.size := rfl; omega
  case c2 => omega
  intro v3 w3 ho3 hf3 hmv
  go_wp2
  go_ret
  refine ⟨_, rfl, ?_, (hf1.non hf2).new hf3 (fun k hk => (Own.lt ho2 k hk).1)⟩
  have e1 : s.data.toList.length = s.size := rfl
  rw [encStr, bs_append, e1]
  exact ho3

set_option maxRecDepth 100000 in
theorem refFix_any (n : Nat) (m : Int) (w : World) (hn : n < 18446744073709551616) :
    Calls Try.prog 15 #[.int .u64 n, .int .i64 m] w fun e w' => ∃ v, e = .returned v ∧ Own w' w.heap.size 5 v (bs (fixF (clamp8 m) n)) ∧ Fr Non w w' := by
  obtain ⟨i0, hi⟩ := info_parts Try.info5
  have hc : (clamp8 m = 0 ∧ m ≤ 0) ∨ (clamp8 m = 8 ∧ 8 ≤ m) ∨ (m = clamp8 m) := by unfold clamp8; split <;> (try split) <;> omega
  obtain ⟨q, hq⟩ : ∃ q, q = clamp8 m := ⟨_, rfl⟩
  rw [← hq] at hc ⊢
  have hq8 : q ≤ 8 := by rw [hq]; unfold clamp8; split <;> (try split) <;> omega
  have HQ := Lib.hid hq
  clear hq
  have HN := Lib.hid hn
  clear hn
  go_enter Try.func15, Try.ntmps15
  go_wp2_with fail
  go_loopw [0, 5, 6] (fun n' v i wr => ∃ (j p r : Nat) (done : List UInt8), n' = .int .u64 r ∧ r < 18446744073709551616 ∧ i = .int .i64 j ∧ j + p = q ∧ fixF q n = done ++ fixF p r ∧ done.length = j ∧ Own wr w.heap.size 5 v (bs done) ∧ Fr Non w wr) (fun _ _ i _ => 8 - (intOf i).toNat)
  case atStart => exact ⟨0, q, n, [], rfl, HN.out, rfl, Nat.zero_add _, rfl, rfl, Own.nil _ _ _, Fr.refl _ _⟩
  case round =>
    obtain ⟨j, p, r, done, rfl, hr64, rfl, hjp, hfx, hdl, hown, hfr⟩ := hrel
    have hjk : j ≤ q := by omega
    have HJ := Lib.hid hjp
    have HX := Lib.hid hfx
    have HD := Lib.hid hdl
    have HC := Lib.hid hc
    clear hjp hfx hdl hc
    by_cases hlt : j < q
    · have hjm : (j : Int) < m := by have := HC.out; omega
      have hj8 : (j : Int) < 8 := by omega
      go_wp2_with (at_builtin; refine wpList_push _ rfl (.tmp 16) (.tmp 20) 22 rfl w.heap.size 5 i0 (.int .u8 0) 1 Try.underlying22 hi rfl _ _ rfl hown _ _ rfl rfl ?cA hfr.size ?_)
      case cA => have := HD.out; rw [bs_length]; omega
      intro v2 w2 hown2 hfr2 hmv2
      go_wp2
      go_roundw
      case rel =>
        have hjp := HJ.out
        match p, hjp with
        | 0, hjp => omega
        | p + 1, hjp =>
          refine ⟨j + 1, p, r / 256, done ++ [UInt8.ofNat (r % 256)], by go_num, by omega, by go_num, by omega, ?_, by simp [HD.out], ?_, hfr.new hfr2 (fun k hk => (Own.lt hown k hk).1)⟩
          · rw [HX.out]; simp [fixF]
          · have e : bs (done ++ [UInt8.ofNat (r % 256)]) = bs done ++ [Value.int .u8 ((r : Int) % 256)] := by
              rw [bs_append, bs_single, ofNat_toNat _ (by omega)]; rfl
            rw [e]; exact hown2
      case measure => simp [intOf]; omega
    · have hp : p = 0 := by have := HJ.out; omega
      subst hp
      have hjq : j = q := by omega
      have e : fixF q n = done := by have := HX.out; simpa [fixF] using this
      rw [← e] at hown
      rcases HC.out with ⟨h1, h2⟩ | ⟨h1, h2⟩ | h1
      · have hjm : ¬ (j : Int) < m := by omega
        clear hjq h1 h2 e
        go_wp2
        go_ret
        exact ⟨_, rfl, hown, hfr⟩
      · have hj8 : ¬ (j : Int) < 8 := by omega
        have hjm : (j : Int) < m ∨ (j : Int) = m := by omega
        clear hjq h1 h2 e
        rcases hjm with hjm | hjm
        · go_wp2
          go_ret
          exact ⟨_, rfl, hown, hfr⟩
        · have hjm' : ¬ (j : Int) < m := by omega
          clear hjm
          go_wp2
          go_ret
          exact ⟨_, rfl, hown, hfr⟩
      · have hjm : ¬ (j : Int) < m := by omega
        clear hjq h1 e
        go_wp2
        go_ret
        exact ⟨_, rfl, hown, hfr⟩
end Go.Proofs.Ytemmabjndbdhlaa
