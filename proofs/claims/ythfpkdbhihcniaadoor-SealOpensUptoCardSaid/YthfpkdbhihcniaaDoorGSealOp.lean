/- GSealOp: CodecFix, SealOpA, SealOpB, SealOpC, one behind the other. -/
import Derived.Test.YthfpkdbhihcniaaDoorGround
import Derived.Test.YthfpkdbhihcniaaDoorGSealRef
import Derived.Test.YthfpkdbhihcniaaDoorGOpMac
import Derived.Test.YthfpkdbhihcniaaDoorGOpStrB
import Derived.Laws.Cover3

/- package codec: grown, Fix -/
namespace Go.Proofs.YthfpkdbhihcniaaDoor
open Go.ChangeShapes Go.WideShapes Go.ChangeAt Go.RowKit

theorem grown_any (v : Value) (l : List UInt8) (more : Nat) (w : World) (hv : Row w v (bs l)) (hm : l.length + more ≤ 281474976710656) :
    Calls Tryd.prog 23 #[v, .int .i64 more] w fun e w' => e = .returned (.slice (some ⟨w.heap.size, 0, none⟩) l.length (l.length + more)) ∧
      Own w' w.heap.size 5 (.slice (some ⟨w.heap.size, 0, none⟩) l.length (l.length + more)) (bs l) ∧ Fr Non w w' := by
  obtain ⟨a, c, rfl, h1, h2, h3, h4⟩ := hv
  rw [bs_length] at *
  obtain ⟨i0, hi, hz0, hz1, hz2⟩ := info_parts Tryd.info5
  have H4 := Lib.hid h4
  clear h4
  go_enter Tryd.func23, Tryd.ntmps23
  go_wp2_with (at_make; refine wpList_make_own _ rfl _ _ 27 rfl w.heap.size 5 i0 (.int .u8 0) 1 Tryd.underlying27 hi hz0 hz1 _ _ _ (l.length + more) rfl rfl (by omega) ?b2 ?b3 (Nat.le_refl _) ?_)
  case b2 => rw [hz2]; omega
  case b3 => unfold maxLen; omega
  intro w1 hown1 hg1
  go_wp2_with (at_builtin; refine wpList_append_fits_any _ rfl (.tmp 9) (.tmp 10) 27 rfl w.heap.size 5 i0 1 Tryd.underlying27 hi hz1 w.heap.size 0 (l.length + more) [] rfl hown1 a l.length c (bs l) rfl ?d1 ?d2 ?d3 ?d4 ?d5 ?_)
  case d1 => rw [bs_length]; omega
  case d2 => intro h; have := h3 h; omega
  case d3 =>
    intro ad had j u hj
    have hj' : j < l.length := by have := (List.getElem?_eq_some_iff.1 hj).1; rwa [bs_length] at this
    obtain ⟨b, off, hab, hc⟩ := H4.out j hj'
    obtain rfl : ad = ⟨b, off, none⟩ := by rw [had] at hab; exact Option.some.inj hab
    rw [Addr.add_lit]
    exact (Fr.ofGrownNone hg1).cell (hc j u hj) (fun h => h)
  case d4 => exact bs_one l
  case d5 => omega
  intro w2 hown2 hg2
  go_wp2
  go_ret
  refine ⟨by simp, (show w2.ownsRow _ _ _ _ (bs l).length (bs l) by rw [bs_length]; exact hown2), (Fr.ofGrownNone hg1).new (Fr.ofGrown hg2) (fun i hi => ?_)⟩
  cases hi; exact Nat.le_refl _

set_option maxRecDepth 100000 in
theorem Fix_any (v : Value) (l : List UInt8) (n : Nat) (m : Int) (w : World) (hv : Row w v (bs l)) (hn : n < 18446744073709551616) (hl : l.length ≤ 140737488355290) :
    Calls Tryd.prog 17 #[v, .int .u64 n, .int .i64 m] w fun e w' => ∃ v', e = .returned v' ∧ Own w' w.heap.size 5 v' (bs (l ++ fixF (clamp8 m) n)) ∧ Fr Non w w' := by
  obtain ⟨i0, hi⟩ := info_parts Tryd.info5
  have HN := Lib.hid hn
  clear hn
  have main : ∀ k : Nat, k ≤ 8 → (m ≤ 0 ∧ k = 0 ∨ m = k ∨ 8 < m ∧ k = 8) → Calls Tryd.prog 17 #[v, .int .u64 n, .int .i64 m] w fun e w' => ∃ v', e = .returned v' ∧ Own w' w.heap.size 5 v' (bs (l ++ fixF k n)) ∧ Fr Non w w' := by
    intro k hk hck
    rcases (show (m < 0 ∧ k = 0) ∨ m = (k : Int) ∨ (8 < m ∧ k = 8) by omega) with ⟨h, rfl⟩ | rfl | ⟨h, rfl⟩
    all_goals clear hck
    · go_enter Tryd.func17, Tryd.ntmps17
      go_wp2_with fail
      refine (grown_any v l (0) w hv (by omega)).mono ?_
      rintro e w1 ⟨rfl, hown, hfr⟩
      go_wp2_with fail
      go_loopw [1, 7, 15] (fun n' v' j' wr => ∃ (j p q : Nat) (done : List UInt8), j' = .int .i64 j ∧ j + p = (0) ∧ n' = .int .u64 q ∧ fixF (0) n = done ++ fixF p q ∧ done.length = j ∧ Own wr w.heap.size 5 v' (bs l ++ bs done) ∧ Fr Non w wr)
        (fun _ _ j' _ => 8 - (intOf j').toNat)
      case atStart => exact ⟨0, (0), n, [], rfl, Nat.zero_add _, rfl, rfl, rfl, by simpa [bs] using hown, hfr⟩
      case round =>
        obtain ⟨j, p, q, done, rfl, hjp, rfl, hfx, hdl, hown, hfr⟩ := hrel
        have HX := Lib.hid hfx
        have HD := Lib.hid hdl
        have hjk : j ≤ (0) := by omega
        have HJ := Lib.hid hjp
        clear hjp hfx hdl
        by_cases hlt : j < (0)
        · exact absurd hlt (by omega)
        · go_wp2
          go_ret
          have hp : p = 0 := by have := HJ.out; omega
          subst hp
          have e : fixF (0) n = done := by have := HX.out; simpa [fixF] using this
          rw [e, bs_append]
          exact ⟨_, rfl, hown, hfr⟩
    · go_enter Tryd.func17, Tryd.ntmps17
      go_wp2_with fail
      refine (grown_any v l (k) w hv (by omega)).mono ?_
      rintro e w1 ⟨rfl, hown, hfr⟩
      go_wp2_with fail
      go_loopw [1, 7, 15] (fun n' v' j' wr => ∃ (j p q : Nat) (done : List UInt8), j' = .int .i64 j ∧ j + p = (k) ∧ n' = .int .u64 q ∧ fixF (k) n = done ++ fixF p q ∧ done.length = j ∧ Own wr w.heap.size 5 v' (bs l ++ bs done) ∧ Fr Non w wr)
        (fun _ _ j' _ => 8 - (intOf j').toNat)
      case atStart => exact ⟨0, (k), n, [], rfl, Nat.zero_add _, rfl, rfl, rfl, by simpa [bs] using hown, hfr⟩
      case round =>
        obtain ⟨j, p, q, done, rfl, hjp, rfl, hfx, hdl, hown, hfr⟩ := hrel
        have HX := Lib.hid hfx
        have HD := Lib.hid hdl
        have hjk : j ≤ (k) := by omega
        have HJ := Lib.hid hjp
        clear hjp hfx hdl
        by_cases hlt : j < (k)
        · go_wp2_with (at_builtin; refine wpList_push _ rfl (.tmp 17) (.tmp 20) 27 rfl w.heap.size 5 i0 (.int .u8 0) 1 Tryd.underlying27 hi rfl _ _ rfl hown _ _ rfl rfl ?cA ?cB ?_)
          case cA => have := HD.out; rw [List.length_append, bs_length, bs_length]; omega
          case cB => exact hfr.size
          intro v2 w2 hown2 hfr2 hmv2
          go_wp2
          go_roundw
          case rel =>
            have hjp := HJ.out
            match p, hjp with
            | 0, hjp => omega
            | p + 1, hjp =>
              refine ⟨j + 1, p, q / 256, done ++ [UInt8.ofNat (q % 256)], by go_num, by omega, by go_num, ?_, by simp [HD.out], ?_, hfr.new hfr2 (fun k hk => (Own.lt hown k hk).1)⟩
              · rw [HX.out]; simp [fixF]
              · have e : bs (done ++ [UInt8.ofNat (q % 256)]) = bs done ++ [Value.int .u8 ((q : Int) % 256)] := by
                  rw [bs_append, bs_single, ofNat_toNat _ (by omega)]; rfl
                rw [e]; exact hown2
          case measure => simp [intOf]; omega
        · go_wp2
          go_ret
          have hp : p = 0 := by have := HJ.out; omega
          subst hp
          have e : fixF (k) n = done := by have := HX.out; simpa [fixF] using this
          rw [e, bs_append]
          exact ⟨_, rfl, hown, hfr⟩
    · go_enter Tryd.func17, Tryd.ntmps17
      go_wp2_with fail
      refine (grown_any v l (8) w hv (by omega)).mono ?_
      rintro e w1 ⟨rfl, hown, hfr⟩
      go_wp2_with fail
      go_loopw [1, 7, 15] (fun n' v' j' wr => ∃ (j p q : Nat) (done : List UInt8), j' = .int .i64 j ∧ j + p = (8) ∧ n' = .int .u64 q ∧ fixF (8) n = done ++ fixF p q ∧ done.length = j ∧ Own wr w.heap.size 5 v' (bs l ++ bs done) ∧ Fr Non w wr)
        (fun _ _ j' _ => 8 - (intOf j').toNat)
      case atStart => exact ⟨0, (8), n, [], rfl, Nat.zero_add _, rfl, rfl, rfl, by simpa [bs] using hown, hfr⟩
      case round =>
        obtain ⟨j, p, q, done, rfl, hjp, rfl, hfx, hdl, hown, hfr⟩ := hrel
        have HX := Lib.hid hfx
        have HD := Lib.hid hdl
        have hjk : j ≤ (8) := by omega
        have HJ := Lib.hid hjp
        clear hjp hfx hdl
        by_cases hlt : j < (8)
        · go_wp2_with (at_builtin; refine wpList_push _ rfl (.tmp 17) (.tmp 20) 27 rfl w.heap.size 5 i0 (.int .u8 0) 1 Tryd.underlying27 hi rfl _ _ rfl hown _ _ rfl rfl ?cA ?cB ?_)
          case cA => have := HD.out; rw [List.length_append, bs_length, bs_length]; omega
          case cB => exact hfr.size
          intro v2 w2 hown2 hfr2 hmv2
          go_wp2
          go_roundw
          case rel =>
            have hjp := HJ.out
            match p, hjp with
            | 0, hjp => omega
            | p + 1, hjp =>
              refine ⟨j + 1, p, q / 256, done ++ [UInt8.ofNat (q % 256)], by go_num, by omega, by go_num, ?_, by simp [HD.out], ?_, hfr.new hfr2 (fun k hk => (Own.lt hown k hk).1)⟩
              · rw [HX.out]; simp [fixF]
              · have e : bs (done ++ [UInt8.ofNat (q % 256)]) = bs done ++ [Value.int .u8 ((q : Int) % 256)] := by
                  rw [bs_append, bs_single, ofNat_toNat _ (by omega)]; rfl
                rw [e]; exact hown2
          case measure => simp [intOf]; omega
        · go_wp2
          go_ret
          have hp : p = 0 := by have := HJ.out; omega
          subst hp
          have e : fixF (8) n = done := by have := HX.out; simpa [fixF] using this
          rw [e, bs_append]
          exact ⟨_, rfl, hown, hfr⟩
  have hc : m ≤ 0 ∧ clamp8 m = 0 ∨ m = clamp8 m ∨ 8 < m ∧ clamp8 m = 8 := by unfold clamp8; split <;> (try split) <;> omega
  exact main (clamp8 m) (by unfold clamp8; split <;> (try split) <;> omega) hc
end Go.Proofs.YthfpkdbhihcniaaDoor

/- package seal: the tag -/
namespace Go.Proofs.YthfpkdbhihcniaaDoor
open Go.ChangeShapes Go.WideShapes Go.ChangeAt Go.RowKit

theorem all4r {P : Nat → Value → Prop} {a b c d : Value} (h0 : P 0 a) (h1 : P 1 b) (h2 : P 2 c) (h3 : P 3 d) : ∀ (i : Nat) (u : Value), [a, b, c, d][i]? = some u → P i u
  | 0, u, h => by simp at h; subst h; exact h0
  | 1, u, h => by simp at h; subst h; exact h1
  | 2, u, h => by simp at h; subst h; exact h2
  | 3, u, h => by simp at h; subst h; exact h3
  | i + 4, u, h => by simp at h
set_option maxRecDepth 100000 in
set_option maxHeartbeats 4000000 in
theorem tagS_any (enc mac nonce : List UInt8) (v u : Value) (ad x : List UInt8) (w : World) (he : enc.length = 32) (hmc : mac.length = 32) (hn : nonce.length = 12) (hv : Row w v (bs ad)) (hu : Row w u (bs x)) (hal : ad.length ≤ 140737488351232) (hxl : x.length ≤ 140737488351232) (hT : ShaT w) :
    Calls Tryd.prog 11 #[.agg (keyCells enc mac).toArray, .agg (bs nonce).toArray, v, u] w fun e w' => e = .returned (.agg (bs (sealTag mac nonce ad x)).toArray) ∧ Fr Non w w' := by
  have hlen := run_lenRow (P := Tryd.prog) hv 27 5 Tryd.underlying27
  rw [bs_length] at hlen
  obtain ⟨a1, c1, rfl, -⟩ := id hv
  obtain ⟨a2, c2, rfl, -⟩ := id hu
  simp only [bs_length] at *
  have HV := Lib.hid hv
  have HU := Lib.hid hu
  have HT := Lib.hid hT
  have HL := Lib.hid (And.intro he (And.intro hmc hn))
  have hid : (Tryd.prog.info? 46).map (·.size) = some 32 := by kernel_rfl
  have HID := Lib.hid hid
  have hi16 : (Tryd.prog.info? 32).map (·.size) = some 16 := by kernel_rfl
  have HI16 := Lib.hid hi16
  clear hv hu hT he hmc hn hid hi16
  go_enter Tryd.func11, Tryd.ntmps11
  go_upto_region 1 with (fail)
  have hb1 := Blk.new w 24 (keyCells enc mac)
  have hf1 := Fr.alloc w (.cells (keyCells enc mac).toArray 24)
  have hs1 : (w.alloc (.cells (keyCells enc mac).toArray 24)).heap.size = w.heap.size + 1 := by simp
  generalize w.alloc (.cells (keyCells enc mac).toArray 24) = w1 at hb1 hf1 hs1 ⊢
  have hb2 := Blk.new w1 26 (bs nonce)
  have hf2 := Fr.alloc w1 (.cells (bs nonce).toArray 26)
  have hs2 : (w1.alloc (.cells (bs nonce).toArray 26)).heap.size = w1.heap.size + 1 := by simp
  generalize w1.alloc (.cells (bs nonce).toArray 26) = w2 at hb2 hf2 hs2 ⊢
  have hb3 : Blk (w2.alloc (.cells #[.int .u8 0, .int .u8 0, .int .u8 0, .int .u8 0, .int .u8 0, .int .u8 0, .int .u8 0, .int .u8 0, .int .u8 0, .int .u8 0, .int .u8 0, .int .u8 0, .int .u8 0, .int .u8 0, .int .u8 0, .int .u8 0] 32)) w2.heap.size 32 (bs (List.replicate 16 0)) := Blk.new w2 _ _
  have hf3 := Fr.alloc w2 (.cells #[.int .u8 0, .int .u8 0, .int .u8 0, .int .u8 0, .int .u8 0, .int .u8 0, .int .u8 0, .int .u8 0, .int .u8 0, .int .u8 0, .int .u8 0, .int .u8 0, .int .u8 0, .int .u8 0, .int .u8 0, .int .u8 0] 32)
  generalize w2.alloc (.cells #[.int .u8 0, .int .u8 0, .int .u8 0, .int .u8 0, .int .u8 0, .int .u8 0, .int .u8 0, .int .u8 0, .int .u8 0, .int .u8 0, .int .u8 0, .int .u8 0, .int .u8 0, .int .u8 0, .int .u8 0, .int .u8 0] 32) = w3 at hb3 hf3 ⊢
  rw [hs1] at hb2 hs2
  rw [hs2] at hb3
  obtain ⟨P, hP⟩ : ∃ P, P = w.heap.size := ⟨_, rfl⟩
  rw [← hP] at hb1 hb2 hb3 ⊢
  have HPE := Lib.hid hP
  have ec : IntKind.u64.wrap (ad.length : Int) = (ad.length : Int) := by rw [IntKind.wrap_u64]; omega
  have HKB0 := Lib.hid ((hb1.non hf2).non hf3)
  have HNB0 := Lib.hid (hb2.non hf3)
  have HRB0 := Lib.hid hb3
  have HF0 := Lib.hid ((hf1.non hf2).non hf3)
  clear hb1 hb2 hb3 hf1 hf2 hf3 hs1 hs2 hP
  go_wp2_with (go_at_call 17; refine (Fix_any (.slice none 0 0) [] ad.length 8 _ (Row.nil _) (by omega) (by simp)).mono ?_; rintro e z1 ⟨v9, rfl, ho9, hfz⟩)
  rw [show clamp8 8 = 8 from rfl, List.nil_append] at ho9
  have hr9 := ho9.row
  clear ho9
  obtain ⟨f8, hf8⟩ : ∃ f8, f8 = fixF 8 ad.length := ⟨_, rfl⟩
  have hl8 : f8.length = 8 := by rw [hf8]; exact fixF_length _ _
  rw [← hf8] at hr9
  obtain ⟨a9, c9, rfl, -⟩ := id hr9
  rw [bs_length, hl8] at hr9 ⊢
  have HR90 := Lib.hid hr9
  have HF8 := Lib.hid (And.intro hf8 hl8)
  have HFZ := Lib.hid hfz
  clear hr9 hf8 hl8 hfz
  go_upto_region 2 with (fail)
  have hkb := (HKB0.out.non HFZ.out).non (Fr.drew _)
  have hnb := (HNB0.out.non HFZ.out).non (Fr.drew _)
  have hrb := (HRB0.out.non HFZ.out).non (Fr.drew _)
  have hff := (HF0.out.non HFZ.out).non (Fr.drew _)
  have hr9 := HR90.out.non (Fr.drew _)
  have hS0 : (fun _ : World => True) z1.drew := trivial
  refine wp_region_held_drew (S := fun _ => True) (by kernel_rfl) hS0 (fun hHeld => ?_)
  clear HKB0 HNB0 HRB0 HF0 HFZ HR90 hS0
  generalize z1.drew = w4 at hkb hnb hrb hff hr9 hHeld ⊢
  have HKB := Lib.hid hkb
  have HNB := Lib.hid hnb
  have HRB := Lib.hid hrb
  have HF3 := Lib.hid hff
  have HR9 := Lib.hid hr9
  have hlt3 : P + 1 + 1 < w4.heap.size := hrb.lt
  clear hkb hnb hrb hff hr9
  refine wpAnyH_takeL (i := 0) 15 (v := ?_) rfl rfl (by kernel_rfl) (by kernel_rfl) (by kernel_rfl) (fun _ _ _ h => h) (by assumption) (Or.inl ⟨by rfl, ?_⟩) ?_
  rotate_left
  · intro w hSw; go_simp; (try with_reducible rfl)
  simp only [List.set_cons_zero, List.set_cons_succ]
  refine wpAnyH_takeL (i := 1) 16 (v := ?_) rfl rfl (by kernel_rfl) (by kernel_rfl) (by kernel_rfl) (fun _ _ _ h => h) (by assumption) (Or.inl ⟨by rfl, ?_⟩) ?_
  rotate_left
  · intro w hSw; go_simp; (try with_reducible rfl)
  simp only [List.set_cons_zero, List.set_cons_succ]
  refine wpAnyH_takeL (i := 2) 17 (v := ?_) rfl rfl (by kernel_rfl) (by kernel_rfl) (by kernel_rfl) (fun _ _ _ h => h) (by assumption) (Or.inl ⟨by rfl, ?_⟩) ?_
  rotate_left
  · intro w hSw; go_simp; (try with_reducible rfl)
  simp only [List.set_cons_zero, List.set_cons_succ]
  refine wpAnyH_takeL (i := 3) 18 (v := ?_) rfl rfl (by kernel_rfl) (by kernel_rfl) (by kernel_rfl) (fun _ _ _ h => h) (by assumption) (Or.inl ⟨by rfl, ?_⟩) ?_
  rotate_left
  · intro w hSw; go_simp; (try with_reducible rfl)
  simp only [List.set_cons_zero, List.set_cons_succ]
  refine wpAnyH_takeL (i := 4) 19 (v := ?_) rfl rfl (by kernel_rfl) (by kernel_rfl) (by kernel_rfl) (fun _ _ _ h => h) (by assumption) (Or.inl ⟨by rfl, ?_⟩) ?_
  rotate_left
  · intro w hSw; go_simp; (try with_reducible rfl)
  simp only [List.set_cons_zero, List.set_cons_succ]
  refine wpAnyH_takeL (i := 5) 20 (v := ?_) rfl rfl (by kernel_rfl) (by kernel_rfl) (by kernel_rfl) (fun _ _ _ h => h) (by assumption) (Or.inl ⟨by rfl, ?_⟩) ?_
  rotate_left
  · intro w hSw; go_simp; (try with_reducible rfl)
  simp only [List.set_cons_zero, List.set_cons_succ]
  refine wpAnyH_ready (rs := [6, 8]) (by kernel_rfl) (by simp) ?_
  refine AllReadyH.cons (o := ⟨some 21, _, _, _, _, _⟩) rfl (fun K hK => ?_) (AllReadyH.cons (o := ⟨some 10, _, _, _, _, _⟩) rfl (fun K hK => ?_) (AllReadyH.nil))
  · skip
    go_simp
    obtain ⟨r1, hw1⟩ : ∃ w', w' = w4.alloc (.cells #[.slice a9 8 c9, .slice a1 ad.length c1, .slice (some ⟨P + 1, 0, none⟩) 12 12, .slice a2 x.length c2] 27) := ⟨_, rfl⟩
    rw [← hw1]
    have F1 : Hid (Fr Non w4 r1) := Lib.hid (by rw [hw1]; exact Fr.alloc _ _)
    have R4 : Hid (Rows2 r1 (.slice (some ⟨w4.heap.size, 0, none⟩) 4 4) [f8, ad, nonce, x]) := Lib.hid (by rw [hw1]; exact Rows2.built (n := 4) (us := [.slice a9 8 c9, .slice a1 ad.length c1, .slice (some ⟨P + 1, 0, none⟩) 12 12, .slice a2 x.length c2]) rfl rfl (by decide) rfl (all4r (HR9.out.non (Fr.refl _ _)) (HV.out.non (HF3.out.non (Fr.refl _ _))) ((HNB.out.non (Fr.refl _ _)).part 0 12 nonce HL.out.2.2 (by unfold maxLen; omega) (fun j v hj => by rw [Nat.zero_add]; exact hj)) (HU.out.non (HF3.out.non (Fr.refl _ _)))))
    clear hw1
    refine hK.out _ _ (trivial) (fun hHeld => ?_)
    clear hK K
    refine wpAnyH_ready (rs := [7, 8]) (by kernel_rfl) (by simp) ?_
    refine AllReadyH.cons (o := ⟨some 22, _, _, _, _, _⟩) rfl (fun K hK => ?_) (AllReadyH.cons (o := ⟨some 10, _, _, _, _, _⟩) rfl (fun K hK => ?_) (AllReadyH.nil))
    · skip
      go_simp
      go_wp2_with (go_at_call 18; refine (macOp_any (.slice (some ⟨P, 32, none⟩) 32 32) _ mac [f8, ad, nonce, x] _ ((HKB.out.non F1.out).part 32 32 mac HL.out.2.1 (by unfold maxLen; omega) (key_mac HL.out.1)) (by rw [HL.out.2.1]; omega) (Rows2.frame R4.out (Fr.refl _ _)) (by have h8 := HF8.out.2; have h12 := HL.out.2.2; simp only [List.flatten_cons, List.flatten_nil, List.length_append, List.length_nil]; omega) (by have h8 := HF8.out.2; have h12 := HL.out.2.2; intro y hy; simp only [List.mem_cons, List.not_mem_nil, or_false] at hy; rcases hy with rfl | rfl | rfl | rfl <;> omega) (HT.out.non (HF3.out.non F1.out))).mono ?_; rintro e r2 ⟨rfl, hf2⟩)
      have F2 : Hid (Fr Non r1 r2) := Lib.hid hf2
      clear hf2
      have HD : Hid ((macSum mac (f8 ++ (ad ++ (nonce ++ x)))).length = 32 ∧ sealTag mac nonce ad x = (macSum mac (f8 ++ (ad ++ (nonce ++ x)))).take 16) := Lib.hid ⟨macSum_length _ _, by rw [HF8.out.1]; unfold sealTag sealIn; rw [List.append_assoc, List.append_assoc]⟩
      generalize macSum mac (f8 ++ (ad ++ (nonce ++ x))) = D at HD ⊢
      refine hK.out _ _ (trivial) (fun hHeld => ?_)
      clear hK K
      refine wpAnyH_ready (rs := [8]) (by kernel_rfl) (by simp) ?_
      refine AllReadyH.cons (o := ⟨some 10, _, _, _, _, _⟩) rfl (fun K hK => ?_) (AllReadyH.nil)
      go_simp
      obtain ⟨X, hX⟩ : ∃ X, X = r2.heap.size := ⟨_, rfl⟩
      have hXP : P + 1 + 1 < X := by have h2 := Fr.size (S := Non) (w := w4) (F1.out.non F2.out); omega
      have hXW : w.heap.size ≤ X := by have h2 := Fr.size (S := Non) (w := w) (HF3.out.non (F1.out.non F2.out)); omega
      obtain ⟨r3, hw3⟩ : ∃ w', w' = r2.alloc (.cells #[.int .u8 0, .int .u8 0, .int .u8 0, .int .u8 0, .int .u8 0, .int .u8 0, .int .u8 0, .int .u8 0, .int .u8 0, .int .u8 0, .int .u8 0, .int .u8 0, .int .u8 0, .int .u8 0, .int .u8 0, .int .u8 0, .int .u8 0, .int .u8 0, .int .u8 0, .int .u8 0, .int .u8 0, .int .u8 0, .int .u8 0, .int .u8 0, .int .u8 0, .int .u8 0, .int .u8 0, .int .u8 0, .int .u8 0, .int .u8 0, .int .u8 0, .int .u8 0] 46) := ⟨_, rfl⟩
      rw [← hw3]
      have F3 : Hid (Fr Non r2 r3) := Lib.hid (by rw [hw3]; exact Fr.alloc _ _)
      have BX : Hid (Blk r3 X 46 (bs (List.replicate 32 0))) := Lib.hid (by rw [hw3]; exact by rw [hX]; exact Blk.new _ _ _)
      clear hw3
      rw [← hX]
      clear hX
      refine hK.out _ _ (trivial) (fun hHeld => ?_)
      clear hK K
      refine wpAnyH_ready (rs := [9]) (by kernel_rfl) (by simp) ?_
      refine AllReadyH.cons (o := ⟨none, _, _, _, _, _⟩) rfl (fun K hK => ?_) (AllReadyH.nil)
      rw [if_pos (by rfl)]
      have hbx := BX.out.non (Fr.refl _ _)
      have hdl : (bs D).toArray.size = 32 := by rw [List.size_toArray, bs_length, HD.out.1]
      refine wp_store_mid 46 (.tmp 10) (.tmp 22) rfl X 0 (bs D).toArray rfl rfl (by rw [hdl]; exact hbx.there 0 32 (by simp [bs_length])) (by rw [hdl]; exact HID.out) (all_oneCell_toArray (bs_one D)) ?_
      have hst := Blk.setCells (bs D) _ _ 0 hbx (by simp [bs_length, HD.out.1])
      have hfs := Fr.setCells' X (bs D) r3 0
      rw [splice_all _ _ (by simp [bs_length, HD.out.1])] at hst
      have hfw := HF3.out.non (F1.out.non (F2.out.non F3.out))
      have hrb := HRB.out.non (F1.out.non (F2.out.non F3.out))
      obtain ⟨z5, hz5⟩ : ∃ z5, z5 = r3.setCells X 0 (bs D).toArray.toList := ⟨_, rfl⟩
      rw [show (bs D) = (bs D).toArray.toList from rfl, ← hz5] at hst hfs
      rw [← hz5]
      have HST := Lib.hid hst
      have HFW := Lib.hid (hfw.new hfs (fun i h => by have h1 : i = X := h; omega))
      have HRB5 := Lib.hid (hrb.frame hfs (fun h => by have h1 : P + 1 + 1 = X := h; omega))
      clear hst hfs hfw hrb hbx hdl hz5
      simp only [Act.put]
      refine hK.out _ _ (trivial) (fun hHeld => ?_)
      clear hK K
      refine wpAnyH_done (by kernel_rfl) ?_ _
      clear hHeld
      have hl16 : (bs (D.take 16)).length = 16 := by rw [bs_length, List.length_take, HD.out.1]; rfl
      have harr : ∀ w', (Instr.arrayAt 32 (.slice (some ⟨X, 0, none⟩) 32 32)).run Tryd.prog w' = .ok (.pointer (some ⟨X, 0, none⟩)) w' := fun w' => run_arrayAt (P := Tryd.prog) (w := w') 32 5 16 (some ⟨X, 0, none⟩) 32 32 Tryd.underlying32 (by omega)
      have hrg : z5.rangeAt X 0 (bs (D.take 16)) := HST.out.range 0 _ (fun j v hj => by
        rw [Nat.zero_add]
        simp only [bs, List.map_take] at hj
        rw [List.getElem?_take] at hj
        split at hj
        · exact hj
        · cases hj)
      have hi6 : (Tryd.prog.info? 32).map (·.size) = some (bs (D.take 16)).length := by rw [hl16]; exact HI16.out
      have hy1 := bs_one (D.take 16)
      obtain ⟨ys, hys⟩ : ∃ ys, ys = bs (D.take 16) := ⟨_, rfl⟩
      rw [← hys] at hl16 hrg hi6 hy1
      have HYS : Hid (ys = bs (sealTag mac nonce ad x)) := Lib.hid (by rw [hys, HD.out.2])
      have HG := Lib.hid (And.intro hrg (And.intro hi6 (And.intro hy1 hl16)))
      clear hrg hi6 hy1 hys hl16
      go_upto_region 3 with (fail)
      go_wp2_with (first
        | ((with_reducible show wpList _ _ _ (({ op := .load _ _, .. } : Oper) :: _) _ _); refine wpList_load_mid rfl 32 _ rfl X 0 rfl ys _ HG.out.1 Tryd.underlying32 rfl HG.out.2.1 ?_; simp only [Act.put, List.setIfInBounds_toArray, List.set_cons_succ, List.set_cons_zero])
        | ((with_reducible show wpList _ _ _ (({ op := .store _ _ _, .. } : Oper) :: _) _ _); refine wpList_put rfl 32 (.tmp 8) (.tmp 25) rfl rfl (P + 1 + 1) _ _ ys HRB5.out (by rw [HG.out.2.2.2]; rfl) HG.out.2.1 HG.out.2.2.1 rfl rfl ?_))
      intro w9 hb9 hf9 _
      have HRV := Lib.hid (hb9.loadVar (P := Tryd.prog) 32 _ Tryd.underlying32 rfl HG.out.2.1)
      have HFF : Hid (Fr Non w w9) := Lib.hid (HFW.out.new hf9 (fun i h => by have h1 : i = P + 1 + 1 := h; have := HPE.out; omega))
      clear hb9 hf9 HRB5 HST HFW HG
      repeat (first | go_skip | go_step)
      refine bodyPost_ret (v := .agg ys.toArray) (by have h := HRV.out; simp [results, Tryd.results11, asAddr, h]) rfl ⟨by rw [HYS.out], HFF.out⟩
    · skip
      go_simp
      obtain ⟨X, hX⟩ : ∃ X, X = r1.heap.size := ⟨_, rfl⟩
      have hXP : P + 1 + 1 < X := by have h2 := Fr.size (S := Non) (w := w4) F1.out; omega
      have hXW : w.heap.size ≤ X := by have h2 := Fr.size (S := Non) (w := w) (HF3.out.non F1.out); omega
      obtain ⟨r2, hw2⟩ : ∃ w', w' = r1.alloc (.cells #[.int .u8 0, .int .u8 0, .int .u8 0, .int .u8 0, .int .u8 0, .int .u8 0, .int .u8 0, .int .u8 0, .int .u8 0, .int .u8 0, .int .u8 0, .int .u8 0, .int .u8 0, .int .u8 0, .int .u8 0, .int .u8 0, .int .u8 0, .int .u8 0, .int .u8 0, .int .u8 0, .int .u8 0, .int .u8 0, .int .u8 0, .int .u8 0, .int .u8 0, .int .u8 0, .int .u8 0, .int .u8 0, .int .u8 0, .int .u8 0, .int .u8 0, .int .u8 0] 46) := ⟨_, rfl⟩
      rw [← hw2]
      have F2 : Hid (Fr Non r1 r2) := Lib.hid (by rw [hw2]; exact Fr.alloc _ _)
      have BX : Hid (Blk r2 X 46 (bs (List.replicate 32 0))) := Lib.hid (by rw [hw2]; exact by rw [hX]; exact Blk.new _ _ _)
      clear hw2
      rw [← hX]
      clear hX
      refine hK.out _ _ (trivial) (fun hHeld => ?_)
      clear hK K
      refine wpAnyH_ready (rs := [7]) (by kernel_rfl) (by simp) ?_
      refine AllReadyH.cons (o := ⟨some 22, _, _, _, _, _⟩) rfl (fun K hK => ?_) (AllReadyH.nil)
      go_simp
      go_wp2_with (go_at_call 18; refine (macOp_any (.slice (some ⟨P, 32, none⟩) 32 32) _ mac [f8, ad, nonce, x] _ ((HKB.out.non (F1.out.non F2.out)).part 32 32 mac HL.out.2.1 (by unfold maxLen; omega) (key_mac HL.out.1)) (by rw [HL.out.2.1]; omega) (Rows2.frame R4.out F2.out) (by have h8 := HF8.out.2; have h12 := HL.out.2.2; simp only [List.flatten_cons, List.flatten_nil, List.length_append, List.length_nil]; omega) (by have h8 := HF8.out.2; have h12 := HL.out.2.2; intro y hy; simp only [List.mem_cons, List.not_mem_nil, or_false] at hy; rcases hy with rfl | rfl | rfl | rfl <;> omega) (HT.out.non (HF3.out.non (F1.out.non F2.out)))).mono ?_; rintro e r3 ⟨rfl, hf3⟩)
      have F3 : Hid (Fr Non r2 r3) := Lib.hid hf3
      clear hf3
      have HD : Hid ((macSum mac (f8 ++ (ad ++ (nonce ++ x)))).length = 32 ∧ sealTag mac nonce ad x = (macSum mac (f8 ++ (ad ++ (nonce ++ x)))).take 16) := Lib.hid ⟨macSum_length _ _, by rw [HF8.out.1]; unfold sealTag sealIn; rw [List.append_assoc, List.append_assoc]⟩
      generalize macSum mac (f8 ++ (ad ++ (nonce ++ x))) = D at HD ⊢
      refine hK.out _ _ (trivial) (fun hHeld => ?_)
      clear hK K
      refine wpAnyH_ready (rs := [9]) (by kernel_rfl) (by simp) ?_
      refine AllReadyH.cons (o := ⟨none, _, _, _, _, _⟩) rfl (fun K hK => ?_) (AllReadyH.nil)
      rw [if_pos (by rfl)]
      have hbx := BX.out.non F3.out
      have hdl : (bs D).toArray.size = 32 := by rw [List.size_toArray, bs_length, HD.out.1]
      refine wp_store_mid 46 (.tmp 10) (.tmp 22) rfl X 0 (bs D).toArray rfl rfl (by rw [hdl]; exact hbx.there 0 32 (by simp [bs_length])) (by rw [hdl]; exact HID.out) (all_oneCell_toArray (bs_one D)) ?_
      have hst := Blk.setCells (bs D) _ _ 0 hbx (by simp [bs_length, HD.out.1])
      have hfs := Fr.setCells' X (bs D) r3 0
      rw [splice_all _ _ (by simp [bs_length, HD.out.1])] at hst
      have hfw := HF3.out.non (F1.out.non (F2.out.non F3.out))
      have hrb := HRB.out.non (F1.out.non (F2.out.non F3.out))
      obtain ⟨z5, hz5⟩ : ∃ z5, z5 = r3.setCells X 0 (bs D).toArray.toList := ⟨_, rfl⟩
      rw [show (bs D) = (bs D).toArray.toList from rfl, ← hz5] at hst hfs
      rw [← hz5]
      have HST := Lib.hid hst
      have HFW := Lib.hid (hfw.new hfs (fun i h => by have h1 : i = X := h; omega))
      have HRB5 := Lib.hid (hrb.frame hfs (fun h => by have h1 : P + 1 + 1 = X := h; omega))
      clear hst hfs hfw hrb hbx hdl hz5
      simp only [Act.put]
      refine hK.out _ _ (trivial) (fun hHeld => ?_)
      clear hK K
      refine wpAnyH_done (by kernel_rfl) ?_ _
      clear hHeld
      have hl16 : (bs (D.take 16)).length = 16 := by rw [bs_length, List.length_take, HD.out.1]; rfl
      have harr : ∀ w', (Instr.arrayAt 32 (.slice (some ⟨X, 0, none⟩) 32 32)).run Tryd.prog w' = .ok (.pointer (some ⟨X, 0, none⟩)) w' := fun w' => run_arrayAt (P := Tryd.prog) (w := w') 32 5 16 (some ⟨X, 0, none⟩) 32 32 Tryd.underlying32 (by omega)
      have hrg : z5.rangeAt X 0 (bs (D.take 16)) := HST.out.range 0 _ (fun j v hj => by
        rw [Nat.zero_add]
        simp only [bs, List.map_take] at hj
        rw [List.getElem?_take] at hj
        split at hj
        · exact hj
        · cases hj)
      have hi6 : (Tryd.prog.info? 32).map (·.size) = some (bs (D.take 16)).length := by rw [hl16]; exact HI16.out
      have hy1 := bs_one (D.take 16)
      obtain ⟨ys, hys⟩ : ∃ ys, ys = bs (D.take 16) := ⟨_, rfl⟩
      rw [← hys] at hl16 hrg hi6 hy1
      have HYS : Hid (ys = bs (sealTag mac nonce ad x)) := Lib.hid (by rw [hys, HD.out.2])
      have HG := Lib.hid (And.intro hrg (And.intro hi6 (And.intro hy1 hl16)))
      clear hrg hi6 hy1 hys hl16
      go_upto_region 3 with (fail)
      go_wp2_with (first
        | ((with_reducible show wpList _ _ _ (({ op := .load _ _, .. } : Oper) :: _) _ _); refine wpList_load_mid rfl 32 _ rfl X 0 rfl ys _ HG.out.1 Tryd.underlying32 rfl HG.out.2.1 ?_; simp only [Act.put, List.setIfInBounds_toArray, List.set_cons_succ, List.set_cons_zero])
        | ((with_reducible show wpList _ _ _ (({ op := .store _ _ _, .. } : Oper) :: _) _ _); refine wpList_put rfl 32 (.tmp 8) (.tmp 25) rfl rfl (P + 1 + 1) _ _ ys HRB5.out (by rw [HG.out.2.2.2]; rfl) HG.out.2.1 HG.out.2.2.1 rfl rfl ?_))
      intro w9 hb9 hf9 _
      have HRV := Lib.hid (hb9.loadVar (P := Tryd.prog) 32 _ Tryd.underlying32 rfl HG.out.2.1)
      have HFF : Hid (Fr Non w w9) := Lib.hid (HFW.out.new hf9 (fun i h => by have h1 : i = P + 1 + 1 := h; have := HPE.out; omega))
      clear hb9 hf9 HRB5 HST HFW HG
      repeat (first | go_skip | go_step)
      refine bodyPost_ret (v := .agg ys.toArray) (by have h := HRV.out; simp [results, Tryd.results11, asAddr, h]) rfl ⟨by rw [HYS.out], HFF.out⟩
  · skip
    go_simp
    obtain ⟨X, hX⟩ : ∃ X, X = w4.heap.size := ⟨_, rfl⟩
    have hXP : P + 1 + 1 < X := by have h2 := Fr.size (S := Non) (w := w4) (Fr.refl _ _); omega
    have hXW : w.heap.size ≤ X := by have h2 := Fr.size (S := Non) (w := w) (HF3.out.non (Fr.refl _ _)); omega
    obtain ⟨r1, hw1⟩ : ∃ w', w' = w4.alloc (.cells #[.int .u8 0, .int .u8 0, .int .u8 0, .int .u8 0, .int .u8 0, .int .u8 0, .int .u8 0, .int .u8 0, .int .u8 0, .int .u8 0, .int .u8 0, .int .u8 0, .int .u8 0, .int .u8 0, .int .u8 0, .int .u8 0, .int .u8 0, .int .u8 0, .int .u8 0, .int .u8 0, .int .u8 0, .int .u8 0, .int .u8 0, .int .u8 0, .int .u8 0, .int .u8 0, .int .u8 0, .int .u8 0, .int .u8 0, .int .u8 0, .int .u8 0, .int .u8 0] 46) := ⟨_, rfl⟩
    rw [← hw1]
    have F1 : Hid (Fr Non w4 r1) := Lib.hid (by rw [hw1]; exact Fr.alloc _ _)
    have BX : Hid (Blk r1 X 46 (bs (List.replicate 32 0))) := Lib.hid (by rw [hw1]; exact by rw [hX]; exact Blk.new _ _ _)
    clear hw1
    rw [← hX]
    clear hX
    refine hK.out _ _ (trivial) (fun hHeld => ?_)
    clear hK K
    refine wpAnyH_ready (rs := [6]) (by kernel_rfl) (by simp) ?_
    refine AllReadyH.cons (o := ⟨some 21, _, _, _, _, _⟩) rfl (fun K hK => ?_) (AllReadyH.nil)
    go_simp
    obtain ⟨r2, hw2⟩ : ∃ w', w' = r1.alloc (.cells #[.slice a9 8 c9, .slice a1 ad.length c1, .slice (some ⟨P + 1, 0, none⟩) 12 12, .slice a2 x.length c2] 27) := ⟨_, rfl⟩
    rw [← hw2]
    have F2 : Hid (Fr Non r1 r2) := Lib.hid (by rw [hw2]; exact Fr.alloc _ _)
    have R4 : Hid (Rows2 r2 (.slice (some ⟨r1.heap.size, 0, none⟩) 4 4) [f8, ad, nonce, x]) := Lib.hid (by rw [hw2]; exact Rows2.built (n := 4) (us := [.slice a9 8 c9, .slice a1 ad.length c1, .slice (some ⟨P + 1, 0, none⟩) 12 12, .slice a2 x.length c2]) rfl rfl (by decide) rfl (all4r (HR9.out.non F1.out) (HV.out.non (HF3.out.non F1.out)) ((HNB.out.non F1.out).part 0 12 nonce HL.out.2.2 (by unfold maxLen; omega) (fun j v hj => by rw [Nat.zero_add]; exact hj)) (HU.out.non (HF3.out.non F1.out))))
    clear hw2
    refine hK.out _ _ (trivial) (fun hHeld => ?_)
    clear hK K
    refine wpAnyH_ready (rs := [7]) (by kernel_rfl) (by simp) ?_
    refine AllReadyH.cons (o := ⟨some 22, _, _, _, _, _⟩) rfl (fun K hK => ?_) (AllReadyH.nil)
    go_simp
    go_wp2_with (go_at_call 18; refine (macOp_any (.slice (some ⟨P, 32, none⟩) 32 32) _ mac [f8, ad, nonce, x] _ ((HKB.out.non (F1.out.non F2.out)).part 32 32 mac HL.out.2.1 (by unfold maxLen; omega) (key_mac HL.out.1)) (by rw [HL.out.2.1]; omega) (Rows2.frame R4.out (Fr.refl _ _)) (by have h8 := HF8.out.2; have h12 := HL.out.2.2; simp only [List.flatten_cons, List.flatten_nil, List.length_append, List.length_nil]; omega) (by have h8 := HF8.out.2; have h12 := HL.out.2.2; intro y hy; simp only [List.mem_cons, List.not_mem_nil, or_false] at hy; rcases hy with rfl | rfl | rfl | rfl <;> omega) (HT.out.non (HF3.out.non (F1.out.non F2.out)))).mono ?_; rintro e r3 ⟨rfl, hf3⟩)
    have F3 : Hid (Fr Non r2 r3) := Lib.hid hf3
    clear hf3
    have HD : Hid ((macSum mac (f8 ++ (ad ++ (nonce ++ x)))).length = 32 ∧ sealTag mac nonce ad x = (macSum mac (f8 ++ (ad ++ (nonce ++ x)))).take 16) := Lib.hid ⟨macSum_length _ _, by rw [HF8.out.1]; unfold sealTag sealIn; rw [List.append_assoc, List.append_assoc]⟩
    generalize macSum mac (f8 ++ (ad ++ (nonce ++ x))) = D at HD ⊢
    refine hK.out _ _ (trivial) (fun hHeld => ?_)
    clear hK K
    refine wpAnyH_ready (rs := [9]) (by kernel_rfl) (by simp) ?_
    refine AllReadyH.cons (o := ⟨none, _, _, _, _, _⟩) rfl (fun K hK => ?_) (AllReadyH.nil)
    rw [if_pos (by rfl)]
    have hbx := BX.out.non (F2.out.non F3.out)
    have hdl : (bs D).toArray.size = 32 := by rw [List.size_toArray, bs_length, HD.out.1]
    refine wp_store_mid 46 (.tmp 10) (.tmp 22) rfl X 0 (bs D).toArray rfl rfl (by rw [hdl]; exact hbx.there 0 32 (by simp [bs_length])) (by rw [hdl]; exact HID.out) (all_oneCell_toArray (bs_one D)) ?_
    have hst := Blk.setCells (bs D) _ _ 0 hbx (by simp [bs_length, HD.out.1])
    have hfs := Fr.setCells' X (bs D) r3 0
    rw [splice_all _ _ (by simp [bs_length, HD.out.1])] at hst
    have hfw := HF3.out.non (F1.out.non (F2.out.non F3.out))
    have hrb := HRB.out.non (F1.out.non (F2.out.non F3.out))
    obtain ⟨z5, hz5⟩ : ∃ z5, z5 = r3.setCells X 0 (bs D).toArray.toList := ⟨_, rfl⟩
    rw [show (bs D) = (bs D).toArray.toList from rfl, ← hz5] at hst hfs
    rw [← hz5]
    have HST := Lib.hid hst
    have HFW := Lib.hid (hfw.new hfs (fun i h => by have h1 : i = X := h; omega))
    have HRB5 := Lib.hid (hrb.frame hfs (fun h => by have h1 : P + 1 + 1 = X := h; omega))
    clear hst hfs hfw hrb hbx hdl hz5
    simp only [Act.put]
    refine hK.out _ _ (trivial) (fun hHeld => ?_)
    clear hK K
    refine wpAnyH_done (by kernel_rfl) ?_ _
    clear hHeld
    have hl16 : (bs (D.take 16)).length = 16 := by rw [bs_length, List.length_take, HD.out.1]; rfl
    have harr : ∀ w', (Instr.arrayAt 32 (.slice (some ⟨X, 0, none⟩) 32 32)).run Tryd.prog w' = .ok (.pointer (some ⟨X, 0, none⟩)) w' := fun w' => run_arrayAt (P := Tryd.prog) (w := w') 32 5 16 (some ⟨X, 0, none⟩) 32 32 Tryd.underlying32 (by omega)
    have hrg : z5.rangeAt X 0 (bs (D.take 16)) := HST.out.range 0 _ (fun j v hj => by
      rw [Nat.zero_add]
      simp only [bs, List.map_take] at hj
      rw [List.getElem?_take] at hj
      split at hj
      · exact hj
      · cases hj)
    have hi6 : (Tryd.prog.info? 32).map (·.size) = some (bs (D.take 16)).length := by rw [hl16]; exact HI16.out
    have hy1 := bs_one (D.take 16)
    obtain ⟨ys, hys⟩ : ∃ ys, ys = bs (D.take 16) := ⟨_, rfl⟩
    rw [← hys] at hl16 hrg hi6 hy1
    have HYS : Hid (ys = bs (sealTag mac nonce ad x)) := Lib.hid (by rw [hys, HD.out.2])
    have HG := Lib.hid (And.intro hrg (And.intro hi6 (And.intro hy1 hl16)))
    clear hrg hi6 hy1 hys hl16
    go_upto_region 3 with (fail)
    go_wp2_with (first
      | ((with_reducible show wpList _ _ _ (({ op := .load _ _, .. } : Oper) :: _) _ _); refine wpList_load_mid rfl 32 _ rfl X 0 rfl ys _ HG.out.1 Tryd.underlying32 rfl HG.out.2.1 ?_; simp only [Act.put, List.setIfInBounds_toArray, List.set_cons_succ, List.set_cons_zero])
      | ((with_reducible show wpList _ _ _ (({ op := .store _ _ _, .. } : Oper) :: _) _ _); refine wpList_put rfl 32 (.tmp 8) (.tmp 25) rfl rfl (P + 1 + 1) _ _ ys HRB5.out (by rw [HG.out.2.2.2]; rfl) HG.out.2.1 HG.out.2.2.1 rfl rfl ?_))
    intro w9 hb9 hf9 _
    have HRV := Lib.hid (hb9.loadVar (P := Tryd.prog) 32 _ Tryd.underlying32 rfl HG.out.2.1)
    have HFF : Hid (Fr Non w w9) := Lib.hid (HFW.out.new hf9 (fun i h => by have h1 : i = P + 1 + 1 := h; have := HPE.out; omega))
    clear hb9 hf9 HRB5 HST HFW HG
    repeat (first | go_skip | go_step)
    refine bodyPost_ret (v := .agg ys.toArray) (by have h := HRV.out; simp [results, Tryd.results11, asAddr, h]) rfl ⟨by rw [HYS.out], HFF.out⟩
end Go.Proofs.YthfpkdbhihcniaaDoor

/- package seal: Seal -/
namespace Go.Proofs.YthfpkdbhihcniaaDoor
open Go.ChangeShapes Go.WideShapes Go.ChangeAt Go.RowKit

theorem Own.ofBlk {w : World} {O e base : Nat} {C : List UInt8} (h : Blk w O e (bs C)) (hm : C.length ≤ maxLen) (hb : base ≤ O) : Own w base e (.slice (some ⟨O, 0, none⟩) C.length C.length) (bs C) := by
  refine ⟨by simp, .inr ⟨O, C.length, (bs C).toArray, by rw [bs_length], hb, h, by rw [bs_length]; exact Nat.le_refl _, hm, by simp [bs_length], ?_⟩⟩
  rw [List.take_of_length_le (by simp)]
set_option maxRecDepth 100000 in
set_option maxHeartbeats 4000000 in
theorem sealS_any (enc mac nonce : List UInt8) (v u : Value) (ad text : List UInt8) (w : World) (he : enc.length = 32) (hmc : mac.length = 32) (hn : nonce.length = 12) (hv : Row w v (bs ad)) (hu : Row w u (bs text)) (hal : ad.length ≤ 140737488351232) (htl : text.length ≤ 140737488351232) (hT : ShaT w) (hS : StartAt w 1) :
    Calls Tryd.prog 10 #[.agg (keyCells enc mac).toArray, .agg (bs nonce).toArray, v, u] w fun e w' => ∃ v', e = .returned v' ∧ Own w' w.heap.size 5 v' (bs (sealSeal enc mac nonce ad text)) ∧ Fr Non w w' := by
  obtain ⟨i0, hi⟩ := info_parts Tryd.info5
  have HI := Lib.hid hi
  have HV := Lib.hid hv
  have HU := Lib.hid hu
  have HT := Lib.hid hT
  have HS := Lib.hid hS
  have HL := Lib.hid (And.intro he (And.intro hmc hn))
  have hik : (Tryd.prog.info? 24).map (·.size) = some (keyCells enc mac).length := by unfold keyCells; rw [List.length_append, bs_length, bs_length, he, hmc]; kernel_rfl
  have hie : (Tryd.prog.info? 22).map (·.size) = some (bs enc).length := by rw [bs_length, he]; kernel_rfl
  have hin : (Tryd.prog.info? 26).map (·.size) = some (bs nonce).length := by rw [bs_length, hn]; kernel_rfl
  have HIS := Lib.hid (And.intro hik (And.intro hie hin))
  have hzv : ∀ w, (zeroValue 32).run Tryd.prog w = .ok (.agg (bs (List.replicate 16 0)).toArray) w := fun _ => by kernel_rfl
  have HZV := Lib.hid hzv
  have hi16 : (Tryd.prog.info? 32).map (·.size) = some 16 := by kernel_rfl
  have HI16 := Lib.hid hi16
  clear hi hv hu hT hS he hmc hn hik hie hin hzv hi16
  go_enter Tryd.func10, Tryd.ntmps10
  go_upto_region 1 with (fail)
  have hb1 := Blk.new w 24 (keyCells enc mac)
  have hf1 := Fr.alloc w (.cells (keyCells enc mac).toArray 24)
  have hs1 : (w.alloc (.cells (keyCells enc mac).toArray 24)).heap.size = w.heap.size + 1 := by simp
  generalize w.alloc (.cells (keyCells enc mac).toArray 24) = w1 at hb1 hf1 hs1 ⊢
  have hb2 := Blk.new w1 26 (bs nonce)
  have hf2 := Fr.alloc w1 (.cells (bs nonce).toArray 26)
  generalize w1.alloc (.cells (bs nonce).toArray 26) = w2 at hb2 hf2 ⊢
  rw [hs1] at hb2
  have HKB := Lib.hid (hb1.non hf2)
  have HNB := Lib.hid hb2
  have HF2 := Lib.hid (hf1.non hf2)
  clear hb1 hb2 hf1 hf2 hs1
  go_wp2_with ((with_reducible show wpList _ _ _ (({ op := .load _ _, .. } : Oper) :: _) _ _); first | (refine wpList_load_mid rfl 22 _ rfl w.heap.size 0 rfl (bs enc) _ (HKB.out.range 0 _ key_enc) Tryd.underlying22 rfl HIS.out.2.1 ?_) | (refine wpList_load_mid rfl 26 _ rfl (w.heap.size + 1) 0 rfl (bs nonce) _ (HNB.out.range 0 _ (fun j v hv => by simpa using hv)) Tryd.underlying26 rfl HIS.out.2.2 ?_))
  refine (crossS_any enc nonce 1 u text w2 HL.out.1 HL.out.2.2 (by omega) (HU.out.non HF2.out) (by omega) (HS.out.non HF2.out)).mono ?_
  rintro e w3 ⟨O, rfl, hO, hb3, hf3⟩
  have HE : Hid (sealSeal enc mac nonce ad text = streamCross enc nonce 1 text ++ sealTag mac nonce ad (streamCross enc nonce 1 text)) := Lib.hid rfl
  have hxl := streamCross_length enc nonce 1 text
  generalize streamCross enc nonce 1 text = x at hb3 HE hxl
  rw [← hxl]
  have HXL := Lib.hid hxl
  have ho3 := Own.ofBlk hb3 (by rw [hxl]; unfold maxLen; omega) hO
  have HO3 := Lib.hid ho3
  have HF3 := Lib.hid hf3
  clear ho3 hb3 hO hf3 hxl
  go_upto_region 2 with (fail)
  go_wp2_with ((with_reducible show wpList _ _ _ (({ op := .load _ _, .. } : Oper) :: _) _ _); first | (refine wpList_load_mid rfl 24 _ rfl w.heap.size 0 rfl (keyCells enc mac) _ ((HKB.out.non HF3.out).range 0 _ (fun j v hv => by simpa using hv)) Tryd.underlying24 rfl HIS.out.1 ?_) | (refine wpList_load_mid rfl 26 _ rfl (w.heap.size + 1) 0 rfl (bs nonce) _ ((HNB.out.non HF3.out).range 0 _ (fun j v hv => by simpa using hv)) Tryd.underlying26 rfl HIS.out.2.2 ?_))
  refine (tagS_any enc mac nonce v _ ad x w3 HL.out.1 HL.out.2.1 HL.out.2.2 ((HV.out.non HF2.out).non HF3.out) HO3.out.row hal (by rw [HXL.out]; exact htl) ((HT.out.non HF2.out).non HF3.out)).mono ?_
  rintro e w4 ⟨rfl, hf4⟩
  have htg := sealTag_length mac nonce ad x
  generalize sealTag mac nonce ad x = t at HE htg
  have HTL := Lib.hid htg
  have HF4 := Lib.hid hf4
  clear hf4 htg
  go_wp2_with ((with_reducible show wpList _ _ _ (({ op := .alloc _, .. } : Oper) :: _) _ _); refine wpList_var rfl rfl 32 10 (.tmp 20) rfl rfl rfl rfl _ (bs t) HZV.out (by rw [bs_length, bs_length, HTL.out]; rfl) (by rw [bs_length, HTL.out]; exact HI16.out) (bs_one _) (by simp) (fun _ => rfl) ?_)
  intro w5 hb5 hf5 hs5
  simp only [List.set_cons_succ, List.set_cons_zero]
  obtain ⟨X, hX⟩ : ∃ X, X = w4.heap.size := ⟨_, rfl⟩
  rw [← hX] at hb5 ⊢
  have HF5 := Lib.hid hf5
  have HB5 := Lib.hid (hb5.part 0 16 t HTL.out (by unfold maxLen; omega) (fun j v hj => by rw [Nat.zero_add]; exact hj))
  clear hb5 hf5 hs5 hX
  go_wp2_with (at_builtin; refine wpList_appRow _ rfl (.tmp 21) (.tmp 22) 27 rfl w2.heap.size 5 i0 (.int .u8 0) 1 Tryd.underlying27 HI.out rfl _ (bs x) rfl ((HO3.out.non HF4.out).non HF5.out) _ (bs t) rfl HB5.out (bs_one _) ⟨by rw [bs_length, bs_length, HXL.out, HTL.out]; omega, by omega⟩ (Nat.le_trans (Nat.le_trans HF3.out.size HF4.out.size) HF5.out.size) ?_)
  intro v6 w6 ho6 hf6 _
  have HR6 : Hid (Own w6 w.heap.size 5 v6 (bs (sealSeal enc mac nonce ad text))) := Lib.hid (by rw [HE.out, bs_append]; exact ho6.mono HF2.out.size)
  have HFF := Lib.hid ((((HF2.out.non HF3.out).non HF4.out).non HF5.out).new hf6 (fun i h => by have h1 := (HO3.out.lt i h).1; have h2 := HF2.out.size; omega))
  clear ho6 hf6
  go_wp2_with fail
  go_ret
  exact ⟨_, rfl, HR6.out, HFF.out⟩
end Go.Proofs.YthfpkdbhihcniaaDoor

/- package seal: Open -/
namespace Go.Proofs.YthfpkdbhihcniaaDoor
open Go.ChangeShapes Go.WideShapes Go.ChangeAt Go.RowKit

theorem rng_fr {a b : World} {B o : Nat} {cs : List Value} (h : a.rangeAt B o cs) (f : Fr Non a b) : b.rangeAt B o cs := fun j y hj => f.cell (h j y hj) (fun h => h)
theorem neqTag (x y : List UInt8) (hx : x.length = 16) (hy : y.length = 16) (w : World) : (binOp .neq 32 (.agg (bs x).toArray) (.agg (bs y).toArray)).run Tryd.prog w = .ok (.bool (!(x == y))) w := by
  have h := run_equalIn_bytes (P := Tryd.prog) w 9998 32 5 16 Tryd.underlying32 Tryd.underlying5 size25 x y hx hy
  have h2 : (Op.equalIn 10000 32 (.agg (bs x).toArray) (.agg (bs y).toArray)).run Tryd.prog w = .ok (x == y) w := h
  simp only [binOp]
  simp [Op.equal, Op.maxDepth, h2]
set_option maxRecDepth 100000 in
set_option maxHeartbeats 4000000 in
theorem openS_any (enc mac nonce : List UInt8) (v u : Value) (ad b : List UInt8) (w : World) (he : enc.length = 32) (hmc : mac.length = 32) (hn : nonce.length = 12) (hv : Row w v (bs ad)) (hu : Row w u (bs b)) (hal : ad.length ≤ 140737488351232) (hbl : b.length ≤ 140737488351248) (hT : ShaT w) (hS : StartAt w 1) :
    Calls Tryd.prog 14 #[.agg (keyCells enc mac).toArray, .agg (bs nonce).toArray, v, u] w fun e w' => ∃ v', e = .returned (.tuple #[v', .int .i64 (sealErr mac nonce ad b : Nat)]) ∧ Own w' w.heap.size 5 v' (bs (sealOut enc mac nonce ad b)) ∧ Fr Non w w' := by
  have hlen := run_lenRow (P := Tryd.prog) hu 27 5 Tryd.underlying27
  rw [bs_length] at hlen
  have HV := Lib.hid hv
  have HU := Lib.hid hu
  have HT := Lib.hid hT
  have HS := Lib.hid hS
  have HL := Lib.hid (And.intro he (And.intro hmc hn))
  have hik : (Tryd.prog.info? 24).map (·.size) = some (keyCells enc mac).length := by unfold keyCells; rw [List.length_append, bs_length, bs_length, he, hmc]; kernel_rfl
  have hie : (Tryd.prog.info? 22).map (·.size) = some (bs enc).length := by rw [bs_length, he]; kernel_rfl
  have hin : (Tryd.prog.info? 26).map (·.size) = some (bs nonce).length := by rw [bs_length, hn]; kernel_rfl
  have huk := Tryd.underlying24
  have hun := Tryd.underlying26
  clear hv hT hS he hmc hn
  by_cases h16 : b.length < 16
  case pos =>
    have hb := out_bad (enc := enc) (bad_short (mac := mac) (nonce := nonce) (ad := ad) h16)
    have HB := Lib.hid hb
    have e1 : IntKind.i64.wrap ((b.length : Int) - 16) = (b.length : Int) - 16 := IntWalk.i64_in _ (by omega)
    have e2 : (b.length : Int) - 16 < 0 := by omega
    clear hb hu
    go_enter Tryd.func14, Tryd.ntmps14
    go_wp2_with fail
    first | go_ret | go_ret2
    exact ⟨_, retOpen _ HB.out.2.symm, by rw [HB.out.1]; exact Own.nil _ _ _, (Fr.alloc _ _).non (Fr.alloc _ _)⟩
  case neg =>
    obtain ⟨N, hN⟩ : ∃ N, b.length = N + 16 := ⟨b.length - 16, by omega⟩
    have htold := seal_told mac nonce ad b N hN
    have e1 : IntKind.i64.wrap ((b.length : Int) - 16) = (N : Int) := by rw [IntWalk.i64_in _ (by omega)]; omega
    have e2 : ¬ (N : Int) < 0 := by omega
    have e3 : decide ((N : Int) < 0) = false := decide_eq_false e2
    have z1 : (0 : Int) ≤ (N : Int) := by omega
    have z2 : (N : Int) ≤ (b.length : Int) := by omega
    obtain ⟨x1, rs1, hx1, -⟩ := run_subHi (P := Tryd.prog) hu 27 5 Tryd.underlying27 (by kernel_rfl) .i64 N N rfl (by rw [bs_length]; omega)
    obtain ⟨x2, rs2, hx2, -⟩ := run_subLo (P := Tryd.prog) hu 27 5 Tryd.underlying27 (by kernel_rfl) .i64 N N rfl (by rw [bs_length]; omega)
    have hx1' : Row w x1 (bs (b.take N)) := by simpa [bs, List.map_take] using hx1
    have hx2' : Row w x2 (bs (b.drop N)) := by simpa [bs, List.map_drop] using hx2
    have htx : sealText enc nonce b = streamCross enc nonce 1 (b.take N) := by unfold sealText; rw [hN, Nat.add_sub_cancel]
    have hl1 : (b.take N).length = N := by rw [List.length_take]; omega
    have hl2 : (b.drop N).length = 16 := by rw [List.length_drop]; omega
    have HTL := Lib.hid (And.intro htold htx)
    have HBL := Lib.hid hN
    have hNb : N ≤ 140737488351232 := by omega
    clear hx1 hx2 htold htx hN
    generalize b.take N = b1 at hx1' HTL hl1
    generalize b.drop N = b2 at hx2' HTL hl2
    obtain ⟨ax, cx, rfl, -⟩ := id hx2'
    rw [bs_length, hl2] at hx2' rs2
    obtain ⟨bb, off, rfl, -⟩ := (hx2'.bytes).2.2.2 0 (by rw [hl2]; omega)
    have harr : ∀ w', (Instr.arrayAt 32 (.slice (some ⟨bb, off, none⟩) 16 cx)).run Tryd.prog w' = .ok (.pointer (some ⟨bb, off, none⟩)) w' := fun w' => run_arrayAt (P := Tryd.prog) (w := w') 32 5 16 (some ⟨bb, off, none⟩) 16 cx Tryd.underlying32 (Nat.le_refl _)
    have hx2r : w.rangeAt bb off (bs b2) := fun j y hj => by
      obtain ⟨a', c', e, q1, q2, q3, q4⟩ := hx2'
      obtain ⟨b', o', rfl, hc⟩ := q4 j (List.getElem?_eq_some_iff.1 hj).1
      injection e with e1 _ _
      injection e1 with e1
      injection e1 with e2 e3
      subst e2 e3
      exact hc j y hj
    have HX1 := Lib.hid hx1'
    have HX2 := Lib.hid hx2r
    have HL1 := Lib.hid hl1
    have HL2 := Lib.hid hl2
    have hi16 : (Tryd.prog.info? 32).map (·.size) = some (bs b2).length := by rw [bs_length, hl2]; kernel_rfl
    have hu16 := Tryd.underlying32
    clear hx1' hx2' hx2r hl1 hl2 hu
    go_enter Tryd.func14, Tryd.ntmps14
    go_upto_region 1 with (fail)
    have hb1 := Blk.new w 24 (keyCells enc mac)
    have hf1 := Fr.alloc w (.cells (keyCells enc mac).toArray 24)
    have hs1 : (w.alloc (.cells (keyCells enc mac).toArray 24)).heap.size = w.heap.size + 1 := by simp
    generalize w.alloc (.cells (keyCells enc mac).toArray 24) = w1 at hb1 hf1 hs1 ⊢
    have hb2 := Blk.new w1 26 (bs nonce)
    have hf2 := Fr.alloc w1 (.cells (bs nonce).toArray 26)
    generalize w1.alloc (.cells (bs nonce).toArray 26) = w2 at hb2 hf2 ⊢
    rw [hs1] at hb2
    obtain ⟨P, hP⟩ : ∃ P, P = w.heap.size := ⟨_, rfl⟩
    rw [← hP] at hb1 hb2 ⊢
    have HKB := Lib.hid (hb1.non hf2)
    have HNB := Lib.hid hb2
    have HF2 := Lib.hid (hf1.non hf2)
    have HPE := Lib.hid hP
    clear hb1 hb2 hf1 hf2 hs1 hP
    go_upto_region 4 with (fail)
    have hS0 : (fun w' : World => w'.rangeAt P 0 (keyCells enc mac) ∧ w'.rangeAt (P + 1) 0 (bs nonce) ∧ w'.rangeAt bb off (bs b2)) w2.drew := ⟨(HKB.out.non (Fr.drew _)).range 0 _ (fun j v hv => by simpa using hv), (HNB.out.non (Fr.drew _)).range 0 _ (fun j v hv => by simpa using hv), rng_fr (rng_fr HX2.out HF2.out) (Fr.drew _)⟩
    refine wp_region_held_drew (S := fun w' => w'.rangeAt P 0 (keyCells enc mac) ∧ w'.rangeAt (P + 1) 0 (bs nonce) ∧ w'.rangeAt bb off (bs b2)) (by kernel_rfl) hS0 (fun hHeld => ?_)
    refine wpAnyH_takeL (i := 0) 16 (v := .agg (keyCells enc mac).toArray) rfl rfl (by kernel_rfl) (by kernel_rfl) (by kernel_rfl) (fun _ _ _ h => h) (by assumption) (yieldsIf_load_mid (by rfl) _ _ rfl P (0) rfl (keyCells enc mac) _ (fun w h => h.1) huk rfl hik) ?_
    simp only [List.set_cons_zero, List.set_cons_succ]
    refine wpAnyH_takeL (i := 1) 17 (v := .agg (bs nonce).toArray) rfl rfl (by kernel_rfl) (by kernel_rfl) (by kernel_rfl) (fun _ _ _ h => h) (by assumption) (yieldsIf_load_mid (by rfl) _ _ rfl (P + 1) (0) rfl (bs nonce) _ (fun w h => h.2.1) hun rfl hin) ?_
    simp only [List.set_cons_zero, List.set_cons_succ]
    refine wpAnyH_takeL (i := 2) 18 (v := ?_) rfl rfl (by kernel_rfl) (by kernel_rfl) (by kernel_rfl) (fun _ _ _ h => h) (by assumption) (Or.inl ⟨by rfl, ?_⟩) ?_
    rotate_left
    · intro w hSw; go_simp; (try with_reducible rfl)
    simp only [List.set_cons_zero, List.set_cons_succ]
    refine wpAnyH_takeL (i := 3) 19 (v := ?_) rfl rfl (by kernel_rfl) (by kernel_rfl) (by kernel_rfl) (fun _ _ _ h => h) (by assumption) (Or.inl ⟨by rfl, ?_⟩) ?_
    rotate_left
    · intro w hSw; go_simp; (try with_reducible rfl)
    simp only [List.set_cons_zero, List.set_cons_succ]
    refine wpAnyH_takeL (i := 4) 20 (v := ?_) rfl rfl (by kernel_rfl) (by kernel_rfl) (by kernel_rfl) (fun _ _ _ h => h) (by assumption) (Or.inl ⟨by rfl, ?_⟩) ?_
    rotate_left
    · intro w hSw; go_simp; (try with_reducible rfl)
    simp only [List.set_cons_zero, List.set_cons_succ]
    refine wpAnyH_takeL (i := 5) 21 (v := ?_) rfl rfl (by kernel_rfl) (by kernel_rfl) (by kernel_rfl) (fun _ _ _ h => h) (by assumption) (Or.inl ⟨by rfl, ?_⟩) ?_
    rotate_left
    · intro w hSw; go_simp; (try with_reducible rfl)
    simp only [List.set_cons_zero, List.set_cons_succ]
    refine wpAnyH_takeL (i := 7) 23 (v := ?_) rfl rfl (by kernel_rfl) (by kernel_rfl) (by kernel_rfl) (fun _ _ _ h => h) (by assumption) (Or.inl ⟨by rfl, ?_⟩) ?_
    rotate_left
    · intro w hSw; go_simp; (try with_reducible rfl)
    simp only [List.set_cons_zero, List.set_cons_succ]
    refine wpAnyH_takeL (i := 8) 24 (v := ?_) rfl rfl (by kernel_rfl) (by kernel_rfl) (by kernel_rfl) (fun _ _ _ h => h) (by assumption) (Or.inl ⟨by rfl, ?_⟩) ?_
    rotate_left
    · intro w hSw; go_simp; (try with_reducible rfl)
    simp only [List.set_cons_zero, List.set_cons_succ]
    refine wpAnyH_takeL (i := 9) 25 (v := ?_) rfl rfl (by kernel_rfl) (by kernel_rfl) (by kernel_rfl) (fun _ _ _ h => h) (by assumption) (Or.inl ⟨by rfl, ?_⟩) ?_
    rotate_left
    · intro w hSw; go_simp; (try with_reducible rfl)
    simp only [List.set_cons_zero, List.set_cons_succ]
    refine wpAnyH_takeL (i := 10) 26 (v := ?_) rfl rfl (by kernel_rfl) (by kernel_rfl) (by kernel_rfl) (fun _ _ _ h => h) (by assumption) (Or.inl ⟨by rfl, ?_⟩) ?_
    rotate_left
    · intro w hSw; go_simp; (try with_reducible rfl)
    simp only [List.set_cons_zero, List.set_cons_succ]
    refine wpAnyH_takeL (i := 11) 27 (v := .agg (bs b2).toArray) rfl rfl (by kernel_rfl) (by kernel_rfl) (by kernel_rfl) (fun _ _ _ h => h) (by assumption) (yieldsIf_load_mid (by rfl) _ _ rfl bb (off) rfl (bs b2) _ (fun w h => h.2.2) hu16 rfl hi16) ?_
    simp only [List.set_cons_zero, List.set_cons_succ]
    refine wpAnyH_ready (rs := [6]) (by kernel_rfl) (by simp) ?_
    refine AllReadyH.cons (o := ⟨some 22, _, _, _, _, _⟩) rfl (fun K hK => ?_) (AllReadyH.nil)
    go_simp
    go_wp2_with (go_at_call 11; refine (tagS_any enc mac nonce v x1 ad b1 _ HL.out.1 HL.out.2.1 HL.out.2.2 (HV.out.non (HF2.out.non (Fr.drew _))) (HX1.out.non (HF2.out.non (Fr.drew _))) hal (by rw [HL1.out]; exact hNb) (HT.out.non (HF2.out.non (Fr.drew _)))).mono ?_; rintro e r2 ⟨rfl, hf2⟩)
    have htl := sealTag_length mac nonce ad b1
    have F2 : Hid (Fr Non w2.drew r2) := Lib.hid hf2
    clear hf2
    generalize sealTag mac nonce ad b1 = t at HTL htl ⊢
    have hneq := fun w => neqTag t b2 htl HL2.out w
    clear htl
    refine hK.out _ _ (⟨(HKB.out.non ((Fr.drew _).non F2.out)).range 0 _ (fun j v hv => by simpa using hv), (HNB.out.non ((Fr.drew _).non F2.out)).range 0 _ (fun j v hv => by simpa using hv), rng_fr (rng_fr HX2.out HF2.out) ((Fr.drew _).non F2.out)⟩) (fun hHeld => ?_)
    clear hK K
    refine wpAnyH_takeL (i := 12) 28 (v := ?_) rfl rfl (by kernel_rfl) (by kernel_rfl) (by kernel_rfl) (fun _ _ _ h => h) (by assumption) (Or.inl ⟨by rfl, ?_⟩) ?_
    rotate_left
    · intro w hSw; go_simp; (try with_reducible rfl)
    simp only [List.set_cons_zero, List.set_cons_succ]
    refine wpAnyH_done (by kernel_rfl) ?_ _
    generalize hw5 : r2 = w5
    have HF5 : Hid (Fr Non w2 w5) := Lib.hid (by rw [← hw5]; exact ((Fr.drew _).non F2.out))
    clear hw5 hneq hHeld hS0
    by_cases htb : (t == b2) = true
    case pos =>
      have hb := out_good (enc := enc) (HTL.out.1.trans htb)
      rw [HTL.out.2] at hb
      have HB := Lib.hid hb
      clear hb
      rw [htb]
      go_upto_region 6 with (fail)
      have hS1 : (fun w' : World => w'.rangeAt P 0 (bs enc) ∧ w'.rangeAt (P + 1) 0 (bs nonce)) w5.drew := ⟨((HKB.out.non HF5.out).non (Fr.drew _)).range 0 _ key_enc, ((HNB.out.non HF5.out).non (Fr.drew _)).range 0 _ (fun j v hv => by simpa using hv)⟩
      refine wp_region_held_drew (S := fun w' : World => w'.rangeAt P 0 (bs enc) ∧ w'.rangeAt (P + 1) 0 (bs nonce)) (by kernel_rfl) hS1 (fun hHeld => ?_)
      refine wpAnyH_takeL (i := 0) 29 (v := ?_) rfl rfl (by kernel_rfl) (by kernel_rfl) (by kernel_rfl) (fun _ _ _ h => h) (by assumption) (Or.inl ⟨by rfl, ?_⟩) ?_
      rotate_left
      · intro w hSw; go_simp; (try with_reducible rfl)
      simp only [List.set_cons_zero, List.set_cons_succ]
      refine wpAnyH_takeL (i := 1) 30 (v := .agg (bs enc).toArray) rfl rfl (by kernel_rfl) (by kernel_rfl) (by kernel_rfl) (fun _ _ _ h => h) (by assumption) (yieldsIf_load_mid (by rfl) _ _ rfl P (0) rfl (bs enc) _ (fun w h => h.1) Tryd.underlying22 rfl hie) ?_
      simp only [List.set_cons_zero, List.set_cons_succ]
      refine wpAnyH_takeL (i := 2) 31 (v := .agg (bs nonce).toArray) rfl rfl (by kernel_rfl) (by kernel_rfl) (by kernel_rfl) (fun _ _ _ h => h) (by assumption) (yieldsIf_load_mid (by rfl) _ _ rfl (P + 1) (0) rfl (bs nonce) _ (fun w h => h.2) hun rfl hin) ?_
      simp only [List.set_cons_zero, List.set_cons_succ]
      refine wpAnyH_takeL (i := 3) 32 (v := ?_) rfl rfl (by kernel_rfl) (by kernel_rfl) (by kernel_rfl) (fun _ _ _ h => h) (by assumption) (Or.inl ⟨by rfl, ?_⟩) ?_
      rotate_left
      · intro w hSw; go_simp; (try with_reducible rfl)
      simp only [List.set_cons_zero, List.set_cons_succ]
      refine wpAnyH_takeL (i := 4) 33 (v := ?_) rfl rfl (by kernel_rfl) (by kernel_rfl) (by kernel_rfl) (fun _ _ _ h => h) (by assumption) (Or.inl ⟨by rfl, ?_⟩) ?_
      rotate_left
      · intro w hSw; go_simp; (try with_reducible rfl)
      simp only [List.set_cons_zero, List.set_cons_succ]
      refine wpAnyH_takeL (i := 5) 34 (v := ?_) rfl rfl (by kernel_rfl) (by kernel_rfl) (by kernel_rfl) (fun _ _ _ h => h) (by assumption) (Or.inl ⟨by rfl, ?_⟩) ?_
      rotate_left
      · intro w hSw; go_simp; (try with_reducible rfl)
      simp only [List.set_cons_zero, List.set_cons_succ]
      refine wpAnyH_ready (rs := [6]) (by kernel_rfl) (by simp) ?_
      refine AllReadyH.cons (o := ⟨some 35, _, _, _, _, _⟩) rfl (fun K hK => ?_) (AllReadyH.nil)
      go_simp
      have hf5d := HF5.out.non (Fr.drew _)
      go_wp2_with (go_at_call 16; refine (crossS_any enc nonce 1 x1 b1 _ HL.out.1 HL.out.2.2 (by omega) (HX1.out.non (HF2.out.non hf5d)) (by rw [HL1.out]; omega) (HS.out.non (HF2.out.non hf5d))).mono ?_; rintro e r2 ⟨O, rfl, hO, hb6, hf2⟩)
      have hcl : (streamCross enc nonce 1 b1).length = b1.length := streamCross_length _ _ _ _
      have ho6 := Own.ofBlk (base := w.heap.size) hb6 (by rw [hcl, HL1.out]; unfold maxLen; omega) (Nat.le_trans (HF2.out.non hf5d).size hO)
      rw [hcl] at ho6
      have HO6 := Lib.hid ho6
      clear hO hb6 hcl ho6
      have F2 : Hid (Fr Non w5.drew r2) := Lib.hid hf2
      clear hf2
      refine hK.out _ _ (⟨((HKB.out.non HF5.out).non ((Fr.drew _).non F2.out)).range 0 _ key_enc, ((HNB.out.non HF5.out).non ((Fr.drew _).non F2.out)).range 0 _ (fun j v hv => by simpa using hv)⟩) (fun hHeld => ?_)
      clear hK K
      refine wpAnyH_takeL (i := 7) 8 (v := ?_) rfl rfl (by kernel_rfl) (by kernel_rfl) (by kernel_rfl) (fun _ _ _ h => h) (by assumption) (Or.inl ⟨by rfl, ?_⟩) ?_
      rotate_left
      · intro w hSw; go_simp; (try with_reducible rfl)
      simp only [List.set_cons_zero, List.set_cons_succ]
      refine wpAnyH_takeL (i := 8) 9 (v := ?_) rfl rfl (by kernel_rfl) (by kernel_rfl) (by kernel_rfl) (fun _ _ _ h => h) (by assumption) (Or.inl ⟨by rfl, ?_⟩) ?_
      rotate_left
      · intro w hSw; go_simp; (try with_reducible rfl)
      simp only [List.set_cons_zero, List.set_cons_succ]
      refine wpAnyH_done (by kernel_rfl) ?_ _
      generalize hw6 : r2 = w6 at HO6 ⊢
      have HFF := Lib.hid (hf5d.non (show Fr Non _ w6 from by rw [← hw6]; exact F2.out))
      clear hw6 hHeld hS1
      go_wp2_with fail
      first | go_ret | go_ret2
      exact ⟨_, retOpen _ HB.out.2.symm, by rw [HB.out.1]; exact HO6.out, HF2.out.non HFF.out⟩
    case neg =>
      have htf : (t == b2) = false := by simpa using htb
      have hb := out_bad (enc := enc) (HTL.out.1.trans htf)
      have HB := Lib.hid hb
      clear hb
      rw [htf]
      go_wp2_with fail
      first | go_ret | go_ret2
      exact ⟨_, retOpen _ HB.out.2.symm, by rw [HB.out.1]; exact Own.nil _ _ _, HF2.out.non HF5.out⟩
end Go.Proofs.YthfpkdbhihcniaaDoor
