/- package codec: grown, Fix -/
import Derived.Test.YteokfgdennjjiaaFixMath
namespace Go.Proofs.Yteokfgdennjjiaa
open Go.ChangeShapes Go.WideShapes Go.ChangeAt Go.RowKit

theorem grown_any (v : Value) (l : List UInt8) (more : Nat) (w : World) (hv : Row w v (bs l)) (hm : l.length + more ≤ 281474976710656) :
    Calls Try.prog 40 #[v, .int .i64 more] w fun e w' => e = .returned (.slice (some ⟨w.heap.size, 0, none⟩) l.length (l.length + more)) ∧
      Own w' w.heap.size 5 (.slice (some ⟨w.heap.size, 0, none⟩) l.length (l.length + more)) (bs l) ∧ Fr Non w w' := by
  obtain ⟨a, c, rfl, h1, h2, h3, h4⟩ := hv
  rw [bs_length] at *
  obtain ⟨i0, hi, hz0, hz1, hz2⟩ := info_parts Try.info5
  have H4 := Lib.hid h4
  clear h4
  go_enter Try.func40, Try.ntmps40
  go_wp2_with (at_make; refine wpList_make_own _ rfl _ _ 43 rfl w.heap.size 5 i0 (.int .u8 0) 1 Try.underlying43 hi hz0 hz1 _ _ _ (l.length + more) rfl rfl (by omega) ?b2 ?b3 (Nat.le_refl _) ?_)
  case b2 => rw [hz2]; omega
  case b3 => unfold maxLen; omega
  intro w1 hown1 hg1
  go_wp2_with (at_builtin; refine wpList_append_fits_any _ rfl (.tmp 9) (.tmp 10) 43 rfl w.heap.size 5 i0 1 Try.underlying43 hi hz1 w.heap.size 0 (l.length + more) [] rfl hown1 a l.length c (bs l) rfl ?d1 ?d2 ?d3 ?d4 ?d5 ?_)
  case d1 => rw [bs_length]; omega
  case d2 => intro h; have := h3 h; omega
  case d3 =>
    intro ad had j u hj
    have hj' : j < l.length := by have := (List.getElem?_eq_some_iff.1 hj).1; rwa [bs_length] at this
    obtain ⟨b, off, hab, hc⟩ := H4.out j hj'
    obtain rfl : ad = ⟨b, off, none⟩ := by rw [had] at hab; exact Option.some.inj hab
    rw [Addr.add_lit]
    exact (Fr.ofGrownNone hg1).cell (hc j u hj) (fun h => h)
  case d4 => exact bs_one l
  case d5 => omega
  intro w2 hown2 hg2
  go_wp2
  go_ret
  refine ⟨by simp, (show w2.ownsRow _ _ _ _ (bs l).length (bs l) by rw [bs_length]; exact hown2), (Fr.ofGrownNone hg1).new (Fr.ofGrown hg2) (fun i hi => ?_)⟩
  cases hi; exact Nat.le_refl _

set_option maxRecDepth 100000 in
theorem Fix_any (v : Value) (l : List UInt8) (n : Nat) (m : Int) (w : World) (hv : Row w v (bs l)) (hn : n < 18446744073709551616) (hl : l.length ≤ 140737488355290) :
    Calls Try.prog 28 #[v, .int .u64 n, .int .i64 m] w fun e w' => ∃ v', e = .returned v' ∧ Own w' w.heap.size 5 v' (bs (l ++ fixF (clamp8 m) n)) ∧ Fr Non w w' := by
  obtain ⟨i0, hi⟩ := info_parts Try.info5
  have HN := Lib.hid hn
  clear hn
  have main : ∀ k : Nat, k ≤ 8 → (m ≤ 0 ∧ k = 0 ∨ m = k ∨ 8 < m ∧ k = 8) → Calls Try.prog 28 #[v, .int .u64 n, .int .i64 m] w fun e w' => ∃ v', e = .returned v' ∧ Own w' w.heap.size 5 v' (bs (l ++ fixF k n)) ∧ Fr Non w w' := by
    intro k hk hck
    rcases (show (m < 0 ∧ k = 0) ∨ m = (k : Int) ∨ (8 < m ∧ k = 8) by omega) with ⟨h, rfl⟩ | rfl | ⟨h, rfl⟩
    all_goals clear hck
    · go_enter Try.func28, Try.ntmps28
      go_wp2_with fail
      refine (grown_any v l (0) w hv (by omega)).mono ?_
      rintro e w1 ⟨rfl, hown, hfr⟩
      go_wp2_with fail
      go_loopw [1, 7, 15] (fun n' v' j' wr => ∃ (j p q : Nat) (done : List UInt8), j' = .int .i64 j ∧ j + p = (0) ∧ n' = .int .u64 q ∧ fixF (0) n = done ++ fixF p q ∧ done.length = j ∧ Own wr w.heap.size 5 v' (bs l ++ bs done) ∧ Fr Non w wr)
        (fun _ _ j' _ => 8 - (intOf j').toNat)
      case atStart => exact ⟨0, (0), n, [], rfl, Nat.zero_add _, rfl, rfl, rfl, by simpa [bs] using hown, hfr⟩
      case round =>
        obtain ⟨j, p, q, done, rfl, hjp, rfl, hfx, hdl, hown, hfr⟩ := hrel
        have HX := Lib.hid hfx
        have HD := Lib.hid hdl
        have hjk : j ≤ (0) := by omega
        have HJ := Lib.hid hjp
        clear hjp hfx hdl
        by_cases hlt : j < (0)
        · exact absurd hlt (by omega)
        · go_wp2
          go_ret
          have hp : p = 0 := by have := HJ.out; omega
          subst hp
          have e : fixF (0) n = done := by have := HX.out; simpa [fixF] using this
          rw [e, bs_append]
          exact ⟨_, rfl, hown, hfr⟩
    · go_enter Try.func28, Try.ntmps28
      go_wp2_with fail
      refine (grown_any v l (k) w hv (by omega)).mono ?_
      rintro e w1 ⟨rfl, hown, hfr⟩
      go_wp2_with fail
      go_loopw [1, 7, 15] (fun n' v' j' wr => ∃ (j p q : Nat) (done : List UInt8), j' = .int .i64 j ∧ j + p = (k) ∧ n' = .int .u64 q ∧ fixF (k) n = done ++ fixF p q ∧ done.length = j ∧ Own wr w.heap.size 5 v' (bs l ++ bs done) ∧ Fr Non w wr)
        (fun _ _ j' _ => 8 - (intOf j').toNat)
      case atStart => exact ⟨0, (k), n, [], rfl, Nat.zero_add _, rfl, rfl, rfl, by simpa [bs] using hown, hfr⟩
      case round =>
        obtain ⟨j, p, q, done, rfl, hjp, rfl, hfx, hdl, hown, hfr⟩ := hrel
        have HX := Lib.hid hfx
        have HD := Lib.hid hdl
        have hjk : j ≤ (k) := by omega
        have HJ := Lib.hid hjp
        clear hjp hfx hdl
        by_cases hlt : j < (k)
        · go_wp2_with (at_builtin; refine wpList_push _ rfl (.tmp 17) (.tmp 20) 43 rfl w.heap.size 5 i0 (.int .u8 0) 1 Try.underlying43 hi rfl _ _ rfl hown _ _ rfl rfl ?cA ?cB ?_)
          case cA => have := HD.out; rw [List.length_append, bs_length, bs_length]; omega
          case cB => exact hfr.size
          intro v2 w2 hown2 hfr2 hmv2
          go_wp2
          go_roundw
          case rel =>
            have hjp := HJ.out
            match p, hjp with
            | 0, hjp => omega
            | p + 1, hjp =>
              refine ⟨j + 1, p, q / 256, done ++ [UInt8.ofNat (q % 256)], by go_num, by omega, by go_num, ?_, by simp [HD.out], ?_, hfr.new hfr2 (fun k hk => (Own.lt hown k hk).1)⟩
              · rw [HX.out]; simp [fixF]
              · have e : bs (done ++ [UInt8.ofNat (q % 256)]) = bs done ++ [Value.int .u8 ((q : Int) % 256)] := by
                  rw [bs_append, bs_single, ofNat_toNat _ (by omega)]; rfl
                rw [e]; exact hown2
          case measure => simp [intOf]; omega
        · go_wp2
          go_ret
          have hp : p = 0 := by have := HJ.out; omega
          subst hp
          have e : fixF (k) n = done := by have := HX.out; simpa [fixF] using this
          rw [e, bs_append]
          exact ⟨_, rfl, hown, hfr⟩
    · go_enter Try.func28, Try.ntmps28
      go_wp2_with fail
      refine (grown_any v l (8) w hv (by omega)).mono ?_
      rintro e w1 ⟨rfl, hown, hfr⟩
      go_wp2_with fail
      go_loopw [1, 7, 15] (fun n' v' j' wr => ∃ (j p q : Nat) (done : List UInt8), j' = .int .i64 j ∧ j + p = (8) ∧ n' = .int .u64 q ∧ fixF (8) n = done ++ fixF p q ∧ done.length = j ∧ Own wr w.heap.size 5 v' (bs l ++ bs done) ∧ Fr Non w wr)
        (fun _ _ j' _ => 8 - (intOf j').toNat)
      case atStart => exact ⟨0, (8), n, [], rfl, Nat.zero_add _, rfl, rfl, rfl, by simpa [bs] using hown, hfr⟩
      case round =>
        obtain ⟨j, p, q, done, rfl, hjp, rfl, hfx, hdl, hown, hfr⟩ := hrel
        have HX := Lib.hid hfx
        have HD := Lib.hid hdl
        have hjk : j ≤ (8) := by omega
        have HJ := Lib.hid hjp
        clear hjp hfx hdl
        by_cases hlt : j < (8)
        · go_wp2_with (at_builtin; refine wpList_push _ rfl (.tmp 17) (.tmp 20) 43 rfl w.heap.size 5 i0 (.int .u8 0) 1 Try.underlying43 hi rfl _ _ rfl hown _ _ rfl rfl ?cA ?cB ?_)
          case cA => have := HD.out; rw [List.length_append, bs_length, bs_length]; omega
          case cB => exact hfr.size
          intro v2 w2 hown2 hfr2 hmv2
          go_wp2
          go_roundw
          case rel =>
            have hjp := HJ.out
            match p, hjp with
            | 0, hjp => omega
            | p + 1, hjp =>
              refine ⟨j + 1, p, q / 256, done ++ [UInt8.ofNat (q % 256)], by go_num, by omega, by go_num, ?_, by simp [HD.out], ?_, hfr.new hfr2 (fun k hk => (Own.lt hown k hk).1)⟩
              · rw [HX.out]; simp [fixF]
              · have e : bs (done ++ [UInt8.ofNat (q % 256)]) = bs done ++ [Value.int .u8 ((q : Int) % 256)] := by
                  rw [bs_append, bs_single, ofNat_toNat _ (by omega)]; rfl
                rw [e]; exact hown2
          case measure => simp [intOf]; omega
        · go_wp2
          go_ret
          have hp : p = 0 := by have := HJ.out; omega
          subst hp
          have e : fixF (8) n = done := by have := HX.out; simpa [fixF] using this
          rw [e, bs_append]
          exact ⟨_, rfl, hown, hfr⟩
  have hc : m ≤ 0 ∧ clamp8 m = 0 ∨ m = clamp8 m ∨ 8 < m ∧ clamp8 m = 8 := by unfold clamp8; split <;> (try split) <;> omega
  exact main (clamp8 m) (by unfold clamp8; split <;> (try split) <;> omega) hc
end Go.Proofs.Yteokfgdennjjiaa
