/- package stream: a rotation, a quarter -/
import Derived.Test.YtcooibfnnjgjkaaDoorStreamRefA
namespace Go.Proofs.YtcooibfnnjgjkaaDoor
open Go.ChangeShapes Go.WideShapes Go.ChangeAt Go.RowKit

theorem rotS_any (x : Nat) (k : Int) (w : World) (hx : x < 4294967296) (hk : k = 16 ∨ k = 12 ∨ k = 8 ∨ k = 7) :
    Calls Tryd.prog 21 #[.int .u32 x, .int .i64 k] w fun e w' => e = .returned (.int .u32 (rotl k.toNat x : Nat)) ∧ w' = w := by
  have hand : bits BinOp.and IntKind.u64 k 31 = k := by rcases hk with rfl | rfl | rfl | rfl <;> decide +kernel
  have h1 : 0 < k := by omega
  have h2 : k < 32 := by omega
  clear hk
  go_enter Tryd.func21, Tryd.ntmps21
  go_wp2_with fail
  go_ret
  exact ⟨retInt (orTurnL x k hx h1 h2), rfl⟩
theorem rotX_any (x y : Nat) (k : Int) (w : World) (hx : x < 4294967296) (hy : y < 4294967296) (hk : k = 16 ∨ k = 12 ∨ k = 8 ∨ k = 7) :
    Calls Tryd.prog 21 #[.int .u32 (bits BinOp.xor IntKind.u32 (x : Int) (y : Int)), .int .i64 k] w fun e w' => e = .returned (.int .u32 (rotl k.toNat (x ^^^ y) : Nat)) ∧ w' = w := by
  rw [u32_xor_nat _ _ hx hy]
  exact rotS_any _ k w (xor_lt32 hx hy) hk

set_option maxRecDepth 100000 in
set_option maxHeartbeats 4000000 in
theorem quarterS_any (B t : Nat) (L : List Nat) (a b c d : Nat) (w : World) (hb : Blk w B t (us L)) (hL : Ws L) (hf : Four a b c d) :
    Calls Tryd.prog 19 #[.pointer (some ⟨B, 0, none⟩), .int .i64 a, .int .i64 b, .int .i64 c, .int .i64 d] w fun e w' => e = .returned (.tuple #[]) ∧ Blk w' B t (us (quarter L a b c d)) ∧ Fr (One B) w w' := by
  have hqk : (get4 L a b c d).ok := get4_ok hL.2 a b c d
  have HF := Lib.hid hf
  have HL := Lib.hid hL.1
  have a1 := hf.ha
  have b1 := hf.hb
  have c1 := hf.hc
  have d1 := hf.hd
  have HE : Hid (quarter L a b c d = put4 L a b c d (get4 L a b c d).all) := Lib.hid rfl
  have hq : QB w B t L a b c d (get4 L a b c d) := ⟨by rw [put4_get4]; exact hb⟩
  have za : (0 : Int) ≤ (a : Int) := by omega
  have zb : (0 : Int) ≤ (b : Int) := by omega
  have zc : (0 : Int) ≤ (c : Int) := by omega
  have zd : (0 : Int) ≤ (d : Int) := by omega
  have ya : (a : Int) < 16 := by omega
  have yb : (b : Int) < 16 := by omega
  have yc : (c : Int) < 16 := by omega
  have yd : (d : Int) < 16 := by omega
  clear hL hf a1 b1 c1 d1 hb
  generalize get4 L a b c d = q at hqk HE hq
  obtain ⟨ca, cb, cc, cd, fa, fb, fc, fd⟩ := hq.cells HF.out HL.out
  obtain ⟨qa, qb, qc, qd⟩ := q
  obtain ⟨oqa, oqb, oqc, oqd⟩ := hqk
  simp only at ca cb cc cd oqa oqb oqc oqd
  have HQ := Lib.hid hq
  have HFR : Hid (Fr (One B) w w) := Lib.hid (Fr.refl _ _)
  clear hq
  go_enter Tryd.func19, Tryd.ntmps19
  go_upto_region 0 with (fail)
  go_still_tail 13, (by kernel_rfl)
  change wpList _ _ _ _ _ w.drew
  obtain ⟨x0, hx⟩ : ∃ x, x = (qa + qb) % 4294967296 := ⟨_, rfl⟩
  have e : IntKind.u32.wrap ((qa : Int) + (qb : Int)) = (x0 : Int) := by rw [hx]; go_num
  have ox0 : x0 < 4294967296 := by omega
  rw [e]
  have HE1 : Hid (quarter L a b c d = put4 L a b c d (((((((((⟨x0, qb, qc, qd⟩ : Qu)).da 16).cd).bc 12).ab).da 8).cd).bc 7)) := Lib.hid (by rw [HE.out, hx]; rfl)
  clear e hx HE
  have HE := HE1
  clear HE1
  go_upto_region 1 with (fail)
  have hq1 := ((HQ.out.setA HF.out x0).frame (Fr.drew _) (fun h => h))
  have hfr1 := (HFR.out.trans (Fr.setCell w ⟨B, a, none⟩ (.int .u32 (x0 : Int))) (fun _ h => h) (fun _ h => .inl h)).thenNon (Fr.drew _)
  generalize (w.setCell ⟨B, a, none⟩ (.int .u32 (x0 : Int))).drew = v0 at hq1 hfr1 ⊢
  clear ca cb cc cd fa fb fc fd HQ HFR
  obtain ⟨ca, cb, cc, cd, fa, fb, fc, fd⟩ := hq1.cells HF.out HL.out
  simp only at ca cb cc cd
  have HQ := Lib.hid hq1
  have HFR := Lib.hid hfr1
  clear hq1 hfr1
  obtain ⟨x1, hx⟩ : ∃ x, x = rotl 16 (qd ^^^ x0) := ⟨_, rfl⟩
  have ox1 : x1 < 4294967296 := by rw [hx]; exact rotl_lt (xor_lt32 oqd ox0)
  have hcall : ∀ w, Calls Tryd.prog 21 #[.int .u32 (bits BinOp.xor IntKind.u32 (qd : Int) (x0 : Int)), .int .i64 16] w fun e w' => e = .returned (.int .u32 (x1 : Int)) ∧ w' = w := fun w => by rw [hx]; exact rotX_any _ _ 16 w oqd ox0 (by decide)
  have HE1 : Hid (quarter L a b c d = put4 L a b c d ((((((((⟨x0, qb, qc, x1⟩ : Qu)).cd).bc 12).ab).da 8).cd).bc 7)) := Lib.hid (by rw [HE.out, hx]; rfl)
  clear hx HE
  go_still_tail 16, (by kernel_rfl)
  still_call (hcall _)
  repeat still_step
  refine wpStill_nil ?_
  change wpList _ _ _ _ _ v0.drew
  clear hcall
  have HE := HE1
  clear HE1
  go_upto_region 2 with (fail)
  have hq1 := ((HQ.out.setD x1).frame (Fr.drew _) (fun h => h))
  have hfr1 := (HFR.out.trans (Fr.setCell v0 ⟨B, d, none⟩ (.int .u32 (x1 : Int))) (fun _ h => h) (fun _ h => .inl h)).thenNon (Fr.drew _)
  generalize (v0.setCell ⟨B, d, none⟩ (.int .u32 (x1 : Int))).drew = v1 at hq1 hfr1 ⊢
  clear ca cb cc cd fa fb fc fd HQ HFR
  obtain ⟨ca, cb, cc, cd, fa, fb, fc, fd⟩ := hq1.cells HF.out HL.out
  simp only at ca cb cc cd
  have HQ := Lib.hid hq1
  have HFR := Lib.hid hfr1
  clear hq1 hfr1
  go_still_tail 13, (by kernel_rfl)
  change wpList _ _ _ _ _ v1.drew
  obtain ⟨x2, hx⟩ : ∃ x, x = (qc + x1) % 4294967296 := ⟨_, rfl⟩
  have e : IntKind.u32.wrap ((qc : Int) + (x1 : Int)) = (x2 : Int) := by rw [hx]; go_num
  have ox2 : x2 < 4294967296 := by omega
  rw [e]
  have HE1 : Hid (quarter L a b c d = put4 L a b c d (((((((⟨x0, qb, x2, x1⟩ : Qu)).bc 12).ab).da 8).cd).bc 7)) := Lib.hid (by rw [HE.out, hx]; rfl)
  clear e hx HE
  have HE := HE1
  clear HE1
  go_upto_region 3 with (fail)
  have hq1 := ((HQ.out.setC HF.out x2).frame (Fr.drew _) (fun h => h))
  have hfr1 := (HFR.out.trans (Fr.setCell v1 ⟨B, c, none⟩ (.int .u32 (x2 : Int))) (fun _ h => h) (fun _ h => .inl h)).thenNon (Fr.drew _)
  generalize (v1.setCell ⟨B, c, none⟩ (.int .u32 (x2 : Int))).drew = v2 at hq1 hfr1 ⊢
  clear ca cb cc cd fa fb fc fd HQ HFR
  obtain ⟨ca, cb, cc, cd, fa, fb, fc, fd⟩ := hq1.cells HF.out HL.out
  simp only at ca cb cc cd
  have HQ := Lib.hid hq1
  have HFR := Lib.hid hfr1
  clear hq1 hfr1
  obtain ⟨x3, hx⟩ : ∃ x, x = rotl 12 (qb ^^^ x2) := ⟨_, rfl⟩
  have ox3 : x3 < 4294967296 := by rw [hx]; exact rotl_lt (xor_lt32 oqb ox2)
  have hcall : ∀ w, Calls Tryd.prog 21 #[.int .u32 (bits BinOp.xor IntKind.u32 (qb : Int) (x2 : Int)), .int .i64 12] w fun e w' => e = .returned (.int .u32 (x3 : Int)) ∧ w' = w := fun w => by rw [hx]; exact rotX_any _ _ 12 w oqb ox2 (by decide)
  have HE1 : Hid (quarter L a b c d = put4 L a b c d ((((((⟨x0, x3, x2, x1⟩ : Qu)).ab).da 8).cd).bc 7)) := Lib.hid (by rw [HE.out, hx]; rfl)
  clear hx HE
  go_still_tail 16, (by kernel_rfl)
  still_call (hcall _)
  repeat still_step
  refine wpStill_nil ?_
  change wpList _ _ _ _ _ v2.drew
  clear hcall
  have HE := HE1
  clear HE1
  go_upto_region 4 with (fail)
  have hq1 := ((HQ.out.setB HF.out x3).frame (Fr.drew _) (fun h => h))
  have hfr1 := (HFR.out.trans (Fr.setCell v2 ⟨B, b, none⟩ (.int .u32 (x3 : Int))) (fun _ h => h) (fun _ h => .inl h)).thenNon (Fr.drew _)
  generalize (v2.setCell ⟨B, b, none⟩ (.int .u32 (x3 : Int))).drew = v3 at hq1 hfr1 ⊢
  clear ca cb cc cd fa fb fc fd HQ HFR
  obtain ⟨ca, cb, cc, cd, fa, fb, fc, fd⟩ := hq1.cells HF.out HL.out
  simp only at ca cb cc cd
  have HQ := Lib.hid hq1
  have HFR := Lib.hid hfr1
  clear hq1 hfr1
  go_still_tail 13, (by kernel_rfl)
  change wpList _ _ _ _ _ v3.drew
  obtain ⟨x4, hx⟩ : ∃ x, x = (x0 + x3) % 4294967296 := ⟨_, rfl⟩
  have e : IntKind.u32.wrap ((x0 : Int) + (x3 : Int)) = (x4 : Int) := by rw [hx]; go_num
  have ox4 : x4 < 4294967296 := by omega
  rw [e]
  have HE1 : Hid (quarter L a b c d = put4 L a b c d (((((⟨x4, x3, x2, x1⟩ : Qu)).da 8).cd).bc 7)) := Lib.hid (by rw [HE.out, hx]; rfl)
  clear e hx HE
  have HE := HE1
  clear HE1
  go_upto_region 5 with (fail)
  have hq1 := ((HQ.out.setA HF.out x4).frame (Fr.drew _) (fun h => h))
  have hfr1 := (HFR.out.trans (Fr.setCell v3 ⟨B, a, none⟩ (.int .u32 (x4 : Int))) (fun _ h => h) (fun _ h => .inl h)).thenNon (Fr.drew _)
  generalize (v3.setCell ⟨B, a, none⟩ (.int .u32 (x4 : Int))).drew = v4 at hq1 hfr1 ⊢
  clear ca cb cc cd fa fb fc fd HQ HFR
  obtain ⟨ca, cb, cc, cd, fa, fb, fc, fd⟩ := hq1.cells HF.out HL.out
  simp only at ca cb cc cd
  have HQ := Lib.hid hq1
  have HFR := Lib.hid hfr1
  clear hq1 hfr1
  obtain ⟨x5, hx⟩ : ∃ x, x = rotl 8 (x1 ^^^ x4) := ⟨_, rfl⟩
  have ox5 : x5 < 4294967296 := by rw [hx]; exact rotl_lt (xor_lt32 ox1 ox4)
  have hcall : ∀ w, Calls Tryd.prog 21 #[.int .u32 (bits BinOp.xor IntKind.u32 (x1 : Int) (x4 : Int)), .int .i64 8] w fun e w' => e = .returned (.int .u32 (x5 : Int)) ∧ w' = w := fun w => by rw [hx]; exact rotX_any _ _ 8 w ox1 ox4 (by decide)
  have HE1 : Hid (quarter L a b c d = put4 L a b c d ((((⟨x4, x3, x2, x5⟩ : Qu)).cd).bc 7)) := Lib.hid (by rw [HE.out, hx]; rfl)
  clear hx HE
  go_still_tail 16, (by kernel_rfl)
  still_call (hcall _)
  repeat still_step
  refine wpStill_nil ?_
  change wpList _ _ _ _ _ v4.drew
  clear hcall
  have HE := HE1
  clear HE1
  go_upto_region 6 with (fail)
  have hq1 := ((HQ.out.setD x5).frame (Fr.drew _) (fun h => h))
  have hfr1 := (HFR.out.trans (Fr.setCell v4 ⟨B, d, none⟩ (.int .u32 (x5 : Int))) (fun _ h => h) (fun _ h => .inl h)).thenNon (Fr.drew _)
  generalize (v4.setCell ⟨B, d, none⟩ (.int .u32 (x5 : Int))).drew = v5 at hq1 hfr1 ⊢
  clear ca cb cc cd fa fb fc fd HQ HFR
  obtain ⟨ca, cb, cc, cd, fa, fb, fc, fd⟩ := hq1.cells HF.out HL.out
  simp only at ca cb cc cd
  have HQ := Lib.hid hq1
  have HFR := Lib.hid hfr1
  clear hq1 hfr1
  go_still_tail 13, (by kernel_rfl)
  change wpList _ _ _ _ _ v5.drew
  obtain ⟨x6, hx⟩ : ∃ x, x = (x2 + x5) % 4294967296 := ⟨_, rfl⟩
  have e : IntKind.u32.wrap ((x2 : Int) + (x5 : Int)) = (x6 : Int) := by rw [hx]; go_num
  have ox6 : x6 < 4294967296 := by omega
  rw [e]
  have HE1 : Hid (quarter L a b c d = put4 L a b c d (((⟨x4, x3, x6, x5⟩ : Qu)).bc 7)) := Lib.hid (by rw [HE.out, hx]; rfl)
  clear e hx HE
  have HE := HE1
  clear HE1
  go_upto_region 7 with (fail)
  have hq1 := ((HQ.out.setC HF.out x6).frame (Fr.drew _) (fun h => h))
  have hfr1 := (HFR.out.trans (Fr.setCell v5 ⟨B, c, none⟩ (.int .u32 (x6 : Int))) (fun _ h => h) (fun _ h => .inl h)).thenNon (Fr.drew _)
  generalize (v5.setCell ⟨B, c, none⟩ (.int .u32 (x6 : Int))).drew = v6 at hq1 hfr1 ⊢
  clear ca cb cc cd fa fb fc fd HQ HFR
  obtain ⟨ca, cb, cc, cd, fa, fb, fc, fd⟩ := hq1.cells HF.out HL.out
  simp only at ca cb cc cd
  have HQ := Lib.hid hq1
  have HFR := Lib.hid hfr1
  clear hq1 hfr1
  obtain ⟨x7, hx⟩ : ∃ x, x = rotl 7 (x3 ^^^ x6) := ⟨_, rfl⟩
  have ox7 : x7 < 4294967296 := by rw [hx]; exact rotl_lt (xor_lt32 ox3 ox6)
  have hcall : ∀ w, Calls Tryd.prog 21 #[.int .u32 (bits BinOp.xor IntKind.u32 (x3 : Int) (x6 : Int)), .int .i64 7] w fun e w' => e = .returned (.int .u32 (x7 : Int)) ∧ w' = w := fun w => by rw [hx]; exact rotX_any _ _ 7 w ox3 ox6 (by decide)
  have HE1 : Hid (quarter L a b c d = put4 L a b c d ⟨x4, x7, x6, x5⟩) := Lib.hid (by rw [HE.out, hx]; rfl)
  clear hx HE
  go_still_tail 16, (by kernel_rfl)
  still_call (hcall _)
  repeat still_step
  refine wpStill_nil ?_
  change wpList _ _ _ _ _ v6.drew
  clear hcall
  have HE := HE1
  clear HE1
  repeat (first | go_skip | go_step)
  have hq1 := ((HQ.out.setB HF.out x7).frame (Fr.drew _) (fun h => h))
  have hfr1 := (HFR.out.trans (Fr.setCell v6 ⟨B, b, none⟩ (.int .u32 (x7 : Int))) (fun _ h => h) (fun _ h => .inl h)).thenNon (Fr.drew _)
  generalize (v6.setCell ⟨B, b, none⟩ (.int .u32 (x7 : Int))).drew = v7 at hq1 hfr1 ⊢
  clear ca cb cc cd fa fb fc fd HQ HFR
  have HQ := Lib.hid hq1
  have HFR := Lib.hid hfr1
  clear hq1 hfr1
  have hq := HQ.out.blk
  rw [← HE.out] at hq
  exact bodyPost_end (v := .tuple #[]) (by simp [results, Tryd.results19]) rfl ⟨rfl, hq, HFR.out⟩
end Go.Proofs.YtcooibfnnjgjkaaDoor
