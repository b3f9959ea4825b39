/- package codec, what lays: contracts of the walk -/
import Derived.Test.YtemmabjndbdhlaaBase
namespace Go.Proofs.Ytemmabjndbdhlaa
open Go.ChangeShapes Go.WideShapes Go.ChangeAt Go.RowKit
theorem Try.info5 : (Try.prog.info? 5).map (fun i => (i.zero, i.size, i.bytes)) = some (some (.int .u8 0), 1, 1) := by kernel_rfl

theorem grown_any (v : Value) (l : List UInt8) (more : Nat) (w : World) (hv : Row w v (bs l)) (hm : l.length + more ≤ 281474976710656) :
    Calls Try.prog 28 #[v, .int .i64 more] w fun e w' => e = .returned (.slice (some ⟨w.heap.size, 0, none⟩) l.length (l.length + more)) ∧
      Own w' w.heap.size 5 (.slice (some ⟨w.heap.size, 0, none⟩) l.length (l.length + more)) (bs l) ∧ Fr Non w w' := by
  obtain ⟨a, c, rfl, h1, h2, h3, h4⟩ := hv
  rw [bs_length] at *
  obtain ⟨i0, hi, hz0, hz1, hz2⟩ := info_parts Try.info5
  have H4 := Lib.hid h4
  clear h4
  go_enter Try.func28, Try.ntmps28
  go_wp2_with (at_make; refine wpList_make_own _ rfl _ _ 22 rfl w.heap.size 5 i0 (.int .u8 0) 1 Try.underlying22 hi hz0 hz1 _ _ _ (l.length + more) rfl rfl (by omega) ?b2 ?b3 (Nat.le_refl _) ?_)
  case b2 => rw [hz2]; omega
  case b3 => unfold maxLen; omega
  intro w1 hown1 hg1
  go_wp2_with (at_builtin; refine wpList_append_fits_any _ rfl (.tmp 9) (.tmp 10) 22 rfl w.heap.size 5 i0 1 Try.underlying22 hi hz1 w.heap.size 0 (l.length + more) [] rfl hown1 a l.length c (bs l) rfl ?d1 ?d2 ?d3 ?d4 ?d5 ?_)
  case d1 => rw [bs_length]; omega
  case d2 => intro h; have := h3 h; omega
  case d3 =>
    intro ad had j u hj
    have hj' : j < l.length := by have := (List.getElem?_eq_some_iff.1 hj).1; rwa [bs_length] at this
    obtain ⟨b, off, hab, hc⟩ := H4.out j hj'
    obtain rfl : ad = ⟨b, off, none⟩ := by rw [had] at hab; exact Option.some.inj hab
    rw [Addr.add_lit]
    exact (Fr.ofGrownNone hg1).cell (hc j u hj) (fun h => h)
  case d4 => exact bs_one l
  case d5 => omega
  intro w2 hown2 hg2
  go_wp2
  go_ret
  refine ⟨by simp, (show w2.ownsRow _ _ _ _ (bs l).length (bs l) by rw [bs_length]; exact hown2), (Fr.ofGrownNone hg1).new (Fr.ofGrown hg2) (fun i hi => ?_)⟩
  cases hi; exact Nat.le_refl _

def encF : Nat → Nat → List UInt8
  | 0, n => [UInt8.ofNat n]
  | k + 1, n => if n < 128 then [UInt8.ofNat n] else UInt8.ofNat (n % 128 + 128) :: encF k (n / 128)
/-- a number's bytes, seven bits each, the lowest first -/
def enc (n : Nat) : List UInt8 := encF 9 n

theorem or128 (m : Nat) : bits BinOp.or IntKind.u8 ((m : Int) % 256) 128 = ((m % 128 + 128 : Nat) : Int) := by
  have h : ∀ a < 256, a ||| 128 = a % 128 + 128 := by decide +kernel
  have e := u8_or_nat (m % 256) 128 (Nat.mod_lt _ (by omega)) (by omega)
  rw [h _ (Nat.mod_lt _ (by omega))] at e
  rw [show ((m : Int) % 256) = ((m % 256 : Nat) : Int) from by omega]
  rw [show m % 256 % 128 = m % 128 from by omega] at e
  exact e
theorem encF_length (f m : Nat) : (encF f m).length ≤ f + 1 := by
  induction f generalizing m with
  | zero => simp [encF]
  | succ f ih =>
    simp only [encF]
    split
    · simp
    · have := ih (m / 128); simp; omega
theorem enc_length (n : Nat) : (enc n).length ≤ 10 := encF_length 9 n
theorem ofNat_toNat (n : Nat) (h : n < 256) : ((UInt8.ofNat n).toNat : Int) = (n : Int) := by
  rw [UInt8.toNat_ofNat', Nat.mod_eq_of_lt h]
theorem bs_single (c : UInt8) : bs [c] = [Value.int .u8 (c.toNat : Int)] := rfl
theorem encF_small (f m : Nat) (h : m < 128) : encF f m = [UInt8.ofNat m] := by
  cases f with
  | zero => rfl
  | succ f => simp only [encF]; rw [if_pos h]
set_option maxRecDepth 100000 in
theorem lay_any (v : Value) (xs : List Value) (n base : Nat) (w : World) (hv : Own w base 5 v xs) (hn : n < 18446744073709551616) (hx : xs.length ≤ 140737488355300) (hb : base ≤ w.heap.size) :
    Calls Try.prog 27 #[v, .int .u64 n] w fun e w' => ∃ v', e = .returned v' ∧ Own w' base 5 v' (xs ++ bs (enc n)) ∧ Fr (OwnOf v) w w' ∧ Moved w v v' := by
  obtain ⟨i0, hi⟩ := info_parts Try.info5
  go_enter Try.func27, Try.ntmps27
  go_wp2
  go_loopw [0, 1] (fun v' m' wr => ∃ (f m : Nat) (done : List UInt8), m' = .int .u64 m ∧ m < 128 ^ (f + 1) ∧ m < 18446744073709551616 ∧ done.length + f = 9 ∧ enc n = done ++ encF f m ∧ Own wr base 5 v' (xs ++ bs done) ∧ Fr (OwnOf v) w wr ∧ (∀ k, v'.ownBlock = some k → v.ownBlock = some k ∨ w.heap.size ≤ k))
    (fun _ m' _ => (intOf m').toNat)
  case atStart => exact ⟨9, n, [], rfl, by omega, hn, rfl, rfl, by simpa [bs] using hv, Fr.refl _ _, fun k hk => .inl hk⟩
  case round =>
    obtain ⟨f, m, done, rfl, hm, hm64, hdf, henc, hown, hfr, hob⟩ := hrel
    have HM := Lib.hid hm
    have HD := Lib.hid hdf
    have HE := Lib.hid henc
    have HN := Lib.hid hn
    clear hm henc hdf hn
    by_cases h128 : 128 ≤ m
    · go_wp2_with (at_builtin; refine wpList_push _ rfl (.tmp 7) (.tmp 11) 22 rfl base 5 i0 (.int .u8 0) 1 Try.underlying22 hi rfl _ _ rfl hown _ _ rfl rfl ?c4 ?c5 ?_)
      case c4 => have := HD.out; rw [List.length_append, bs_length]; omega
      case c5 => have := hfr.size; omega
      intro v' w1 hown' hfr' hmv
      go_wp2
      go_roundw
      case rel =>
        have hm := HM.out
        have hd := HD.out
        match f, hm with
        | 0, hm => omega
        | f + 1, hm =>
          refine ⟨f, m / 128, done ++ [UInt8.ofNat (m % 128 + 128)], by go_num, ?_, by omega, by simp; omega, ?_, ?_, ?_, ?_⟩
          · rw [Nat.div_lt_iff_lt_mul (by omega)]; rw [Nat.pow_succ] at hm; exact hm
          · rw [HE.out]; simp only [encF]; rw [if_neg (by omega)]; simp
          · have e : bs (done ++ [UInt8.ofNat (m % 128 + 128)]) = bs done ++ [Value.int .u8 (bits BinOp.or IntKind.u8 (↑m % 256) 128)] := by
              rw [bs_append, or128, bs_single, ofNat_toNat _ (by omega)]
            rw [e]; exact hown'
          · exact hfr.trans hfr' (fun _ h => h) (fun k hk => (hob k hk))
          · intro k hk
            rcases hmv k hk with h | h
            · exact hob k h
            · exact .inr (Nat.le_trans hfr.size h)
      case measure => simp [intOf]; omega
    · go_wp2_with (at_builtin; refine wpList_push _ rfl (.tmp 15) (.tmp 18) 22 rfl base 5 i0 (.int .u8 0) 1 Try.underlying22 hi rfl _ _ rfl hown _ _ rfl rfl ?c6 ?c7 ?_)
      case c6 => have := HD.out; rw [List.length_append, bs_length]; omega
      case c7 => have := hfr.size; omega
      intro v' w1 hown' hfr' hmv
      go_wp2
      go_ret
      have e : bs (enc n) = bs done ++ [Value.int .u8 (m : Int)] := by
        rw [HE.out, encF_small _ _ (by omega), bs_append, bs_single, ofNat_toNat _ (by omega)]
      rw [e]
      refine ⟨v', rfl, hown', hfr.trans hfr' (fun _ h => h) (fun k hk => hob k hk), fun k hk => ?_⟩
      rcases hmv k hk with h | h
      · exact hob k h
      · exact .inr (Nat.le_trans hfr.size h)

set_option maxRecDepth 100000 in
theorem Num_any (v : Value) (l : List UInt8) (n : Nat) (w : World) (hv : Row w v (bs l)) (hn : n < 18446744073709551616) (hl : l.length ≤ 140737488355290) :
    Calls Try.prog 10 #[v, .int .u64 n] w fun e w' => ∃ v', e = .returned v' ∧ Own w' w.heap.size 5 v' (bs (l ++ enc n)) ∧ Fr Non w w' := by
  go_enter Try.func10, Try.ntmps10
  go_wp2_with fail
  refine (grown_any v l 10 w hv (by omega)).mono ?_
  rintro e w1 ⟨rfl, hown, hfr⟩
  have HN := Lib.hid hn
  clear hn
  go_wp2_with fail
  refine (lay_any _ _ n w.heap.size w1 hown HN.out (by rw [bs_length]; omega) hfr.size).mono ?_
  rintro e w2 ⟨v', rfl, hown2, hfr2, _⟩
  go_wp2_with fail
  go_ret
  refine ⟨v', rfl, by rw [bs_append]; exact hown2, hfr.new hfr2 (fun k hk => ?_)⟩
  cases hk; exact Nat.le_refl _

def encStr (s : List UInt8) : List UInt8 := enc s.length ++ s

set_option maxRecDepth 100000 in
theorem Str_any (v : Value) (l : List UInt8) (s : ByteArray) (w : World) (hv : Row w v (bs l)) (hl : l.length + s.size ≤ 140737488355290) :
    Calls Try.prog 11 #[v, .string s] w fun e w' => ∃ v', e = .returned v' ∧ Own w' w.heap.size 5 v' (bs (l ++ encStr s.data.toList)) ∧ Fr Non w w' := by
  obtain ⟨i0, hi⟩ := info_parts Try.info5
  go_enter Try.func11, Try.ntmps11
  go_wp2_with fail
  have e0 : (10 : Int) + (s.size : Int) = ((10 + s.size : Nat) : Int) := by omega
  rw [e0]
  clear e0
  refine (grown_any v l (10 + s.size) w hv (by omega)).mono ?_
  rintro e w1 ⟨rfl, hown, hfr⟩
  go_wp2_with fail
  refine (lay_any _ _ s.size w.heap.size w1 hown (by omega) (by rw [bs_length]; omega) hfr.size).mono ?_
  rintro e w2 ⟨v', rfl, hown2, hfr2, hmv⟩
  have hel := enc_length s.size
  have h2 : w.heap.size ≤ w2.heap.size := Nat.le_trans hfr.size hfr2.size
  go_wp2_with (at_builtin; refine wpList_appStr _ rfl (.tmp 13) (.tmp 14) 22 9 rfl w.heap.size 5 i0 Try.underlying22 Try.underlying9 hi v' _ rfl hown2 s rfl ?c1 h2 ?_)
  case c1 => rw [List.length_append, bs_length, bs_length]; omega
  intro v2 w3 hown3 hfr3 hmv3
  go_wp2_with fail
  go_ret
  have e1 : s.data.toList.length = s.size := rfl
  refine ⟨v2, rfl, ?_, (hfr.new hfr2 (fun k hk => ?_)).new hfr3 (fun k hk => ?_)⟩
  · rw [bs_append, encStr, bs_append, e1, ← List.append_assoc]; simpa using hown3
  · cases hk; exact Nat.le_refl _
  · rcases hmv k hk with h | h
    · cases h; exact Nat.le_refl _
    · exact Nat.le_trans hfr.size h

def fixF : Nat → Nat → List UInt8
  | 0, _ => []
  | k + 1, n => UInt8.ofNat (n % 256) :: fixF k (n / 256)
theorem fixF_length (k n : Nat) : (fixF k n).length = k := by
  induction k generalizing n with
  | zero => rfl
  | succ k ih => simp [fixF, ih]
def clamp8 (m : Int) : Nat := if m < 0 then 0 else if 8 < m then 8 else m.toNat

set_option maxRecDepth 100000 in
theorem Fix_any (v : Value) (l : List UInt8) (n : Nat) (m : Int) (w : World) (hv : Row w v (bs l)) (hn : n < 18446744073709551616) (hl : l.length ≤ 140737488355290) :
    Calls Try.prog 12 #[v, .int .u64 n, .int .i64 m] w fun e w' => ∃ v', e = .returned v' ∧ Own w' w.heap.size 5 v' (bs (l ++ fixF (clamp8 m) n)) ∧ Fr Non w w' := by
  obtain ⟨i0, hi⟩ := info_parts Try.info5
  have HN := Lib.hid hn
  clear hn
  have main : ∀ k : Nat, k ≤ 8 → (m ≤ 0 ∧ k = 0 ∨ m = k ∨ 8 < m ∧ k = 8) → Calls Try.prog 12 #[v, .int .u64 n, .int .i64 m] w fun e w' => ∃ v', e = .returned v' ∧ Own w' w.heap.size 5 v' (bs (l ++ fixF k n)) ∧ Fr Non w w' := by
    intro k hk hck
    rcases (show (m < 0 ∧ k = 0) ∨ m = (k : Int) ∨ (8 < m ∧ k = 8) by omega) with ⟨h, rfl⟩ | rfl | ⟨h, rfl⟩
    all_goals clear hck
    · go_enter Try.func12, Try.ntmps12
      go_wp2_with fail
      refine (grown_any v l (0) w hv (by omega)).mono ?_
      rintro e w1 ⟨rfl, hown, hfr⟩
      go_wp2_with fail
      go_loopw [1, 7, 15] (fun n' v' j' wr => ∃ (j p q : Nat) (done : List UInt8), j' = .int .i64 j ∧ j + p = (0) ∧ n' = .int .u64 q ∧ fixF (0) n = done ++ fixF p q ∧ done.length = j ∧ Own wr w.heap.size 5 v' (bs l ++ bs done) ∧ Fr Non w wr)
        (fun _ _ j' _ => 8 - (intOf j').toNat)
      case atStart => exact ⟨0, (0), n, [], rfl, Nat.zero_add _, rfl, rfl, rfl, by simpa [bs] using hown, hfr⟩
      case round =>
        obtain ⟨j, p, q, done, rfl, hjp, rfl, hfx, hdl, hown, hfr⟩ := hrel
        have HX := Lib.hid hfx
        have HD := Lib.hid hdl
        have hjk : j ≤ (0) := by omega
        have HJ := Lib.hid hjp
        clear hjp hfx hdl
        by_cases hlt : j < (0)
        · exact absurd hlt (by omega)
        · go_wp2
          go_ret
          have hp : p = 0 := by have := HJ.out; omega
          subst hp
          have e : fixF (0) n = done := by have := HX.out; simpa [fixF] using this
          rw [e, bs_append]
          exact ⟨_, rfl, hown, hfr⟩
    · go_enter Try.func12, Try.ntmps12
      go_wp2_with fail
      refine (grown_any v l (k) w hv (by omega)).mono ?_
      rintro e w1 ⟨rfl, hown, hfr⟩
      go_wp2_with fail
      go_loopw [1, 7, 15] (fun n' v' j' wr => ∃ (j p q : Nat) (done : List UInt8), j' = .int .i64 j ∧ j + p = (k) ∧ n' = .int .u64 q ∧ fixF (k) n = done ++ fixF p q ∧ done.length = j ∧ Own wr w.heap.size 5 v' (bs l ++ bs done) ∧ Fr Non w wr)
        (fun _ _ j' _ => 8 - (intOf j').toNat)
      case atStart => exact ⟨0, (k), n, [], rfl, Nat.zero_add _, rfl, rfl, rfl, by simpa [bs] using hown, hfr⟩
      case round =>
        obtain ⟨j, p, q, done, rfl, hjp, rfl, hfx, hdl, hown, hfr⟩ := hrel
        have HX := Lib.hid hfx
        have HD := Lib.hid hdl
        have hjk : j ≤ (k) := by omega
        have HJ := Lib.hid hjp
        clear hjp hfx hdl
        by_cases hlt : j < (k)
        · go_wp2_with (at_builtin; refine wpList_push _ rfl (.tmp 17) (.tmp 20) 22 rfl w.heap.size 5 i0 (.int .u8 0) 1 Try.underlying22 hi rfl _ _ rfl hown _ _ rfl rfl ?cA ?cB ?_)
          case cA => have := HD.out; rw [List.length_append, bs_length, bs_length]; omega
          case cB => exact hfr.size
          intro v2 w2 hown2 hfr2 hmv2
          go_wp2
          go_roundw
          case rel =>
            have hjp := HJ.out
            match p, hjp with
            | 0, hjp => omega
            | p + 1, hjp =>
              refine ⟨j + 1, p, q / 256, done ++ [UInt8.ofNat (q % 256)], by go_num, by omega, by go_num, ?_, by simp [HD.out], ?_, hfr.new hfr2 (fun k hk => (Own.lt hown k hk).1)⟩
              · rw [HX.out]; simp [fixF]
              · have e : bs (done ++ [UInt8.ofNat (q % 256)]) = bs done ++ [Value.int .u8 ((q : Int) % 256)] := by
                  rw [bs_append, bs_single, ofNat_toNat _ (by omega)]; rfl
                rw [e]; exact hown2
          case measure => simp [intOf]; omega
        · go_wp2
          go_ret
          have hp : p = 0 := by have := HJ.out; omega
          subst hp
          have e : fixF (k) n = done := by have := HX.out; simpa [fixF] using this
          rw [e, bs_append]
          exact ⟨_, rfl, hown, hfr⟩
    · go_enter Try.func12, Try.ntmps12
      go_wp2_with fail
      refine (grown_any v l (8) w hv (by omega)).mono ?_
      rintro e w1 ⟨rfl, hown, hfr⟩
      go_wp2_with fail
      go_loopw [1, 7, 15] (fun n' v' j' wr => ∃ (j p q : Nat) (done : List UInt8), j' = .int .i64 j ∧ j + p = (8) ∧ n' = .int .u64 q ∧ fixF (8) n = done ++ fixF p q ∧ done.length = j ∧ Own wr w.heap.size 5 v' (bs l ++ bs done) ∧ Fr Non w wr)
        (fun _ _ j' _ => 8 - (intOf j').toNat)
      case atStart => exact ⟨0, (8), n, [], rfl, Nat.zero_add _, rfl, rfl, rfl, by simpa [bs] using hown, hfr⟩
      case round =>
        obtain ⟨j, p, q, done, rfl, hjp, rfl, hfx, hdl, hown, hfr⟩ := hrel
        have HX := Lib.hid hfx
        have HD := Lib.hid hdl
        have hjk : j ≤ (8) := by omega
        have HJ := Lib.hid hjp
        clear hjp hfx hdl
        by_cases hlt : j < (8)
        · go_wp2_with (at_builtin; refine wpList_push _ rfl (.tmp 17) (.tmp 20) 22 rfl w.heap.size 5 i0 (.int .u8 0) 1 Try.underlying22 hi rfl _ _ rfl hown _ _ rfl rfl ?cA ?cB ?_)
          case cA => have := HD.out; rw [List.length_append, bs_length, bs_length]; omega
          case cB => exact hfr.size
          intro v2 w2 hown2 hfr2 hmv2
          go_wp2
          go_roundw
          case rel =>
            have hjp := HJ.out
            match p, hjp with
            | 0, hjp => omega
            | p + 1, hjp =>
              refine ⟨j + 1, p, q / 256, done ++ [UInt8.ofNat (q % 256)], by go_num, by omega, by go_num, ?_, by simp [HD.out], ?_, hfr.new hfr2 (fun k hk => (Own.lt hown k hk).1)⟩
              · rw [HX.out]; simp [fixF]
              · have e : bs (done ++ [UInt8.ofNat (q % 256)]) = bs done ++ [Value.int .u8 ((q : Int) % 256)] := by
                  rw [bs_append, bs_single, ofNat_toNat _ (by omega)]; rfl
                rw [e]; exact hown2
          case measure => simp [intOf]; omega
        · go_wp2
          go_ret
          have hp : p = 0 := by have := HJ.out; omega
          subst hp
          have e : fixF (8) n = done := by have := HX.out; simpa [fixF] using this
          rw [e, bs_append]
          exact ⟨_, rfl, hown, hfr⟩
  have hc : m ≤ 0 ∧ clamp8 m = 0 ∨ m = clamp8 m ∨ 8 < m ∧ clamp8 m = 8 := by unfold clamp8; split <;> (try split) <;> omega
  exact main (clamp8 m) (by unfold clamp8; split <;> (try split) <;> omega) hc
end Go.Proofs.Ytemmabjndbdhlaa
