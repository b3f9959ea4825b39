/- the document's answers of layer 1: a number's bytes -/
import Derived.Test.YteokfgdennjjiaaFixMath
namespace Go.Proofs.Yteokfgdennjjiaa
open Go.ChangeShapes Go.WideShapes Go.ChangeAt Go.RowKit

set_option maxRecDepth 100000 in
theorem refFix_any (n : Nat) (m : Int) (w : World) (hn : n < 18446744073709551616) :
    Calls Try.prog 29 #[.int .u64 n, .int .i64 m] w fun e w' => ∃ v, e = .returned v ∧ Own w' w.heap.size 5 v (bs (fixF (clamp8 m) n)) ∧ Fr Non w w' := by
  obtain ⟨i0, hi⟩ := info_parts Try.info5
  have hc : (clamp8 m = 0 ∧ m ≤ 0) ∨ (clamp8 m = 8 ∧ 8 ≤ m) ∨ (m = clamp8 m) := by unfold clamp8; split <;> (try split) <;> omega
  obtain ⟨q, hq⟩ : ∃ q, q = clamp8 m := ⟨_, rfl⟩
  rw [← hq] at hc ⊢
  have hq8 : q ≤ 8 := by rw [hq]; unfold clamp8; split <;> (try split) <;> omega
  have HQ := Lib.hid hq
  clear hq
  have HN := Lib.hid hn
  clear hn
  go_enter Try.func29, Try.ntmps29
  go_wp2_with fail
  go_loopw [0, 5, 6] (fun n' v i wr => ∃ (j p r : Nat) (done : List UInt8), n' = .int .u64 r ∧ r < 18446744073709551616 ∧ i = .int .i64 j ∧ j + p = q ∧ fixF q n = done ++ fixF p r ∧ done.length = j ∧ Own wr w.heap.size 5 v (bs done) ∧ Fr Non w wr) (fun _ _ i _ => 8 - (intOf i).toNat)
  case atStart => exact ⟨0, q, n, [], rfl, HN.out, rfl, Nat.zero_add _, rfl, rfl, Own.nil _ _ _, Fr.refl _ _⟩
  case round =>
    obtain ⟨j, p, r, done, rfl, hr64, rfl, hjp, hfx, hdl, hown, hfr⟩ := hrel
    have hjk : j ≤ q := by omega
    have HJ := Lib.hid hjp
    have HX := Lib.hid hfx
    have HD := Lib.hid hdl
    have HC := Lib.hid hc
    clear hjp hfx hdl hc
    by_cases hlt : j < q
    · have hjm : (j : Int) < m := by have := HC.out; omega
      have hj8 : (j : Int) < 8 := by omega
      go_wp2_with (at_builtin; refine wpList_push _ rfl (.tmp 16) (.tmp 20) 43 rfl w.heap.size 5 i0 (.int .u8 0) 1 Try.underlying43 hi rfl _ _ rfl hown _ _ rfl rfl ?cA hfr.size ?_)
      case cA => have := HD.out; rw [bs_length]; omega
      intro v2 w2 hown2 hfr2 hmv2
      go_wp2
      go_roundw
      case rel =>
        have hjp := HJ.out
        match p, hjp with
        | 0, hjp => omega
        | p + 1, hjp =>
          refine ⟨j + 1, p, r / 256, done ++ [UInt8.ofNat (r % 256)], by go_num, by omega, by go_num, by omega, ?_, by simp [HD.out], ?_, hfr.new hfr2 (fun k hk => (Own.lt hown k hk).1)⟩
          · rw [HX.out]; simp [fixF]
          · have e : bs (done ++ [UInt8.ofNat (r % 256)]) = bs done ++ [Value.int .u8 ((r : Int) % 256)] := by
              rw [bs_append, bs_single, ofNat_toNat _ (by omega)]; rfl
            rw [e]; exact hown2
      case measure => simp [intOf]; omega
    · have hp : p = 0 := by have := HJ.out; omega
      subst hp
      have hjq : j = q := by omega
      have e : fixF q n = done := by have := HX.out; simpa [fixF] using this
      rw [← e] at hown
      rcases HC.out with ⟨h1, h2⟩ | ⟨h1, h2⟩ | h1
      · have hjm : ¬ (j : Int) < m := by omega
        clear hjq h1 h2 e
        go_wp2
        go_ret
        exact ⟨_, rfl, hown, hfr⟩
      · have hj8 : ¬ (j : Int) < 8 := by omega
        have hjm : (j : Int) < m ∨ (j : Int) = m := by omega
        clear hjq h1 h2 e
        rcases hjm with hjm | hjm
        · go_wp2
          go_ret
          exact ⟨_, rfl, hown, hfr⟩
        · have hjm' : ¬ (j : Int) < m := by omega
          clear hjm
          go_wp2
          go_ret
          exact ⟨_, rfl, hown, hfr⟩
      · have hjm : ¬ (j : Int) < m := by omega
        clear hjq h1 e
        go_wp2
        go_ret
        exact ⟨_, rfl, hown, hfr⟩
end Go.Proofs.Yteokfgdennjjiaa
