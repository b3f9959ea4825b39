/- GOpStrA: StreamOpA, StreamOpB, StreamOpC, StreamOpD, one behind the other. -/
import Derived.Test.YthfpkdbhihcniaaDoorGRefStrA
import Derived.Test.YthfpkdbhihcniaaDoorGround
import Derived.Laws.Cover3

/- package stream: a rotation, a quarter -/
namespace Go.Proofs.YthfpkdbhihcniaaDoor
open Go.ChangeShapes Go.WideShapes Go.ChangeAt Go.RowKit

theorem rotS_any (x : Nat) (k : Int) (w : World) (hx : x < 4294967296) (hk : k = 16 ∨ k = 12 ∨ k = 8 ∨ k = 7) :
    Calls Tryd.prog 50 #[.int .u32 x, .int .i64 k] w fun e w' => e = .returned (.int .u32 (rotl k.toNat x : Nat)) ∧ w' = w := by
  have hand : bits BinOp.and IntKind.u64 k 31 = k := by rcases hk with rfl | rfl | rfl | rfl <;> decide +kernel
  have h1 : 0 < k := by omega
  have h2 : k < 32 := by omega
  clear hk
  go_enter Tryd.func50, Tryd.ntmps50
  go_wp2_with fail
  go_ret
  exact ⟨retInt (orTurnL x k hx h1 h2), rfl⟩
theorem rotX_any (x y : Nat) (k : Int) (w : World) (hx : x < 4294967296) (hy : y < 4294967296) (hk : k = 16 ∨ k = 12 ∨ k = 8 ∨ k = 7) :
    Calls Tryd.prog 50 #[.int .u32 (bits BinOp.xor IntKind.u32 (x : Int) (y : Int)), .int .i64 k] w fun e w' => e = .returned (.int .u32 (rotl k.toNat (x ^^^ y) : Nat)) ∧ w' = w := by
  rw [u32_xor_nat _ _ hx hy]
  exact rotS_any _ k w (xor_lt32 hx hy) hk

set_option maxRecDepth 100000 in
set_option maxHeartbeats 4000000 in
theorem quarterS_any (B t : Nat) (L : List Nat) (a b c d : Nat) (w : World) (hb : Blk w B t (us L)) (hL : Ws L) (hf : Four a b c d) :
    Calls Tryd.prog 44 #[.pointer (some ⟨B, 0, none⟩), .int .i64 a, .int .i64 b, .int .i64 c, .int .i64 d] w fun e w' => e = .returned (.tuple #[]) ∧ Blk w' B t (us (quarter L a b c d)) ∧ Fr (One B) w w' := by
  have hqk : (get4 L a b c d).ok := get4_ok hL.2 a b c d
  have HF := Lib.hid hf
  have HL := Lib.hid hL.1
  have a1 := hf.ha
  have b1 := hf.hb
  have c1 := hf.hc
  have d1 := hf.hd
  have HE : Hid (quarter L a b c d = put4 L a b c d (get4 L a b c d).all) := Lib.hid rfl
  have hq : QB w B t L a b c d (get4 L a b c d) := ⟨by rw [put4_get4]; exact hb⟩
  have za : (0 : Int) ≤ (a : Int) := by omega
  have zb : (0 : Int) ≤ (b : Int) := by omega
  have zc : (0 : Int) ≤ (c : Int) := by omega
  have zd : (0 : Int) ≤ (d : Int) := by omega
  have ya : (a : Int) < 16 := by omega
  have yb : (b : Int) < 16 := by omega
  have yc : (c : Int) < 16 := by omega
  have yd : (d : Int) < 16 := by omega
  clear hL hf a1 b1 c1 d1 hb
  generalize get4 L a b c d = q at hqk HE hq
  obtain ⟨ca, cb, cc, cd, fa, fb, fc, fd⟩ := hq.cells HF.out HL.out
  obtain ⟨qa, qb, qc, qd⟩ := q
  obtain ⟨oqa, oqb, oqc, oqd⟩ := hqk
  simp only at ca cb cc cd oqa oqb oqc oqd
  have HQ := Lib.hid hq
  have HFR : Hid (Fr (One B) w w) := Lib.hid (Fr.refl _ _)
  clear hq
  go_enter Tryd.func44, Tryd.ntmps44
  go_upto_region 0 with (fail)
  go_still_tail 13, (by kernel_rfl)
  change wpList _ _ _ _ _ w.drew
  obtain ⟨x0, hx⟩ : ∃ x, x = (qa + qb) % 4294967296 := ⟨_, rfl⟩
  have e : IntKind.u32.wrap ((qa : Int) + (qb : Int)) = (x0 : Int) := by rw [hx]; go_num
  have ox0 : x0 < 4294967296 := by omega
  rw [e]
  have HE1 : Hid (quarter L a b c d = put4 L a b c d (((((((((⟨x0, qb, qc, qd⟩ : Qu)).da 16).cd).bc 12).ab).da 8).cd).bc 7)) := Lib.hid (by rw [HE.out, hx]; rfl)
  clear e hx HE
  have HE := HE1
  clear HE1
  go_upto_region 1 with (fail)
  have hq1 := ((HQ.out.setA HF.out x0).frame (Fr.drew _) (fun h => h))
  have hfr1 := (HFR.out.trans (Fr.setCell w ⟨B, a, none⟩ (.int .u32 (x0 : Int))) (fun _ h => h) (fun _ h => .inl h)).thenNon (Fr.drew _)
  generalize (w.setCell ⟨B, a, none⟩ (.int .u32 (x0 : Int))).drew = v0 at hq1 hfr1 ⊢
  clear ca cb cc cd fa fb fc fd HQ HFR
  obtain ⟨ca, cb, cc, cd, fa, fb, fc, fd⟩ := hq1.cells HF.out HL.out
  simp only at ca cb cc cd
  have HQ := Lib.hid hq1
  have HFR := Lib.hid hfr1
  clear hq1 hfr1
  obtain ⟨x1, hx⟩ : ∃ x, x = rotl 16 (qd ^^^ x0) := ⟨_, rfl⟩
  have ox1 : x1 < 4294967296 := by rw [hx]; exact rotl_lt (xor_lt32 oqd ox0)
  have hcall : ∀ w, Calls Tryd.prog 50 #[.int .u32 (bits BinOp.xor IntKind.u32 (qd : Int) (x0 : Int)), .int .i64 16] w fun e w' => e = .returned (.int .u32 (x1 : Int)) ∧ w' = w := fun w => by rw [hx]; exact rotX_any _ _ 16 w oqd ox0 (by decide)
  have HE1 : Hid (quarter L a b c d = put4 L a b c d ((((((((⟨x0, qb, qc, x1⟩ : Qu)).cd).bc 12).ab).da 8).cd).bc 7)) := Lib.hid (by rw [HE.out, hx]; rfl)
  clear hx HE
  go_still_tail 16, (by kernel_rfl)
  still_call (hcall _)
  repeat still_step
  refine wpStill_nil ?_
  change wpList _ _ _ _ _ v0.drew
  clear hcall
  have HE := HE1
  clear HE1
  go_upto_region 2 with (fail)
  have hq1 := ((HQ.out.setD x1).frame (Fr.drew _) (fun h => h))
  have hfr1 := (HFR.out.trans (Fr.setCell v0 ⟨B, d, none⟩ (.int .u32 (x1 : Int))) (fun _ h => h) (fun _ h => .inl h)).thenNon (Fr.drew _)
  generalize (v0.setCell ⟨B, d, none⟩ (.int .u32 (x1 : Int))).drew = v1 at hq1 hfr1 ⊢
  clear ca cb cc cd fa fb fc fd HQ HFR
  obtain ⟨ca, cb, cc, cd, fa, fb, fc, fd⟩ := hq1.cells HF.out HL.out
  simp only at ca cb cc cd
  have HQ := Lib.hid hq1
  have HFR := Lib.hid hfr1
  clear hq1 hfr1
  go_still_tail 13, (by kernel_rfl)
  change wpList _ _ _ _ _ v1.drew
  obtain ⟨x2, hx⟩ : ∃ x, x = (qc + x1) % 4294967296 := ⟨_, rfl⟩
  have e : IntKind.u32.wrap ((qc : Int) + (x1 : Int)) = (x2 : Int) := by rw [hx]; go_num
  have ox2 : x2 < 4294967296 := by omega
  rw [e]
  have HE1 : Hid (quarter L a b c d = put4 L a b c d (((((((⟨x0, qb, x2, x1⟩ : Qu)).bc 12).ab).da 8).cd).bc 7)) := Lib.hid (by rw [HE.out, hx]; rfl)
  clear e hx HE
  have HE := HE1
  clear HE1
  go_upto_region 3 with (fail)
  have hq1 := ((HQ.out.setC HF.out x2).frame (Fr.drew _) (fun h => h))
  have hfr1 := (HFR.out.trans (Fr.setCell v1 ⟨B, c, none⟩ (.int .u32 (x2 : Int))) (fun _ h => h) (fun _ h => .inl h)).thenNon (Fr.drew _)
  generalize (v1.setCell ⟨B, c, none⟩ (.int .u32 (x2 : Int))).drew = v2 at hq1 hfr1 ⊢
  clear ca cb cc cd fa fb fc fd HQ HFR
  obtain ⟨ca, cb, cc, cd, fa, fb, fc, fd⟩ := hq1.cells HF.out HL.out
  simp only at ca cb cc cd
  have HQ := Lib.hid hq1
  have HFR := Lib.hid hfr1
  clear hq1 hfr1
  obtain ⟨x3, hx⟩ : ∃ x, x = rotl 12 (qb ^^^ x2) := ⟨_, rfl⟩
  have ox3 : x3 < 4294967296 := by rw [hx]; exact rotl_lt (xor_lt32 oqb ox2)
  have hcall : ∀ w, Calls Tryd.prog 50 #[.int .u32 (bits BinOp.xor IntKind.u32 (qb : Int) (x2 : Int)), .int .i64 12] w fun e w' => e = .returned (.int .u32 (x3 : Int)) ∧ w' = w := fun w => by rw [hx]; exact rotX_any _ _ 12 w oqb ox2 (by decide)
  have HE1 : Hid (quarter L a b c d = put4 L a b c d ((((((⟨x0, x3, x2, x1⟩ : Qu)).ab).da 8).cd).bc 7)) := Lib.hid (by rw [HE.out, hx]; rfl)
  clear hx HE
  go_still_tail 16, (by kernel_rfl)
  still_call (hcall _)
  repeat still_step
  refine wpStill_nil ?_
  change wpList _ _ _ _ _ v2.drew
  clear hcall
  have HE := HE1
  clear HE1
  go_upto_region 4 with (fail)
  have hq1 := ((HQ.out.setB HF.out x3).frame (Fr.drew _) (fun h => h))
  have hfr1 := (HFR.out.trans (Fr.setCell v2 ⟨B, b, none⟩ (.int .u32 (x3 : Int))) (fun _ h => h) (fun _ h => .inl h)).thenNon (Fr.drew _)
  generalize (v2.setCell ⟨B, b, none⟩ (.int .u32 (x3 : Int))).drew = v3 at hq1 hfr1 ⊢
  clear ca cb cc cd fa fb fc fd HQ HFR
  obtain ⟨ca, cb, cc, cd, fa, fb, fc, fd⟩ := hq1.cells HF.out HL.out
  simp only at ca cb cc cd
  have HQ := Lib.hid hq1
  have HFR := Lib.hid hfr1
  clear hq1 hfr1
  go_still_tail 13, (by kernel_rfl)
  change wpList _ _ _ _ _ v3.drew
  obtain ⟨x4, hx⟩ : ∃ x, x = (x0 + x3) % 4294967296 := ⟨_, rfl⟩
  have e : IntKind.u32.wrap ((x0 : Int) + (x3 : Int)) = (x4 : Int) := by rw [hx]; go_num
  have ox4 : x4 < 4294967296 := by omega
  rw [e]
  have HE1 : Hid (quarter L a b c d = put4 L a b c d (((((⟨x4, x3, x2, x1⟩ : Qu)).da 8).cd).bc 7)) := Lib.hid (by rw [HE.out, hx]; rfl)
  clear e hx HE
  have HE := HE1
  clear HE1
  go_upto_region 5 with (fail)
  have hq1 := ((HQ.out.setA HF.out x4).frame (Fr.drew _) (fun h => h))
  have hfr1 := (HFR.out.trans (Fr.setCell v3 ⟨B, a, none⟩ (.int .u32 (x4 : Int))) (fun _ h => h) (fun _ h => .inl h)).thenNon (Fr.drew _)
  generalize (v3.setCell ⟨B, a, none⟩ (.int .u32 (x4 : Int))).drew = v4 at hq1 hfr1 ⊢
  clear ca cb cc cd fa fb fc fd HQ HFR
  obtain ⟨ca, cb, cc, cd, fa, fb, fc, fd⟩ := hq1.cells HF.out HL.out
  simp only at ca cb cc cd
  have HQ := Lib.hid hq1
  have HFR := Lib.hid hfr1
  clear hq1 hfr1
  obtain ⟨x5, hx⟩ : ∃ x, x = rotl 8 (x1 ^^^ x4) := ⟨_, rfl⟩
  have ox5 : x5 < 4294967296 := by rw [hx]; exact rotl_lt (xor_lt32 ox1 ox4)
  have hcall : ∀ w, Calls Tryd.prog 50 #[.int .u32 (bits BinOp.xor IntKind.u32 (x1 : Int) (x4 : Int)), .int .i64 8] w fun e w' => e = .returned (.int .u32 (x5 : Int)) ∧ w' = w := fun w => by rw [hx]; exact rotX_any _ _ 8 w ox1 ox4 (by decide)
  have HE1 : Hid (quarter L a b c d = put4 L a b c d ((((⟨x4, x3, x2, x5⟩ : Qu)).cd).bc 7)) := Lib.hid (by rw [HE.out, hx]; rfl)
  clear hx HE
  go_still_tail 16, (by kernel_rfl)
  still_call (hcall _)
  repeat still_step
  refine wpStill_nil ?_
  change wpList _ _ _ _ _ v4.drew
  clear hcall
  have HE := HE1
  clear HE1
  go_upto_region 6 with (fail)
  have hq1 := ((HQ.out.setD x5).frame (Fr.drew _) (fun h => h))
  have hfr1 := (HFR.out.trans (Fr.setCell v4 ⟨B, d, none⟩ (.int .u32 (x5 : Int))) (fun _ h => h) (fun _ h => .inl h)).thenNon (Fr.drew _)
  generalize (v4.setCell ⟨B, d, none⟩ (.int .u32 (x5 : Int))).drew = v5 at hq1 hfr1 ⊢
  clear ca cb cc cd fa fb fc fd HQ HFR
  obtain ⟨ca, cb, cc, cd, fa, fb, fc, fd⟩ := hq1.cells HF.out HL.out
  simp only at ca cb cc cd
  have HQ := Lib.hid hq1
  have HFR := Lib.hid hfr1
  clear hq1 hfr1
  go_still_tail 13, (by kernel_rfl)
  change wpList _ _ _ _ _ v5.drew
  obtain ⟨x6, hx⟩ : ∃ x, x = (x2 + x5) % 4294967296 := ⟨_, rfl⟩
  have e : IntKind.u32.wrap ((x2 : Int) + (x5 : Int)) = (x6 : Int) := by rw [hx]; go_num
  have ox6 : x6 < 4294967296 := by omega
  rw [e]
  have HE1 : Hid (quarter L a b c d = put4 L a b c d (((⟨x4, x3, x6, x5⟩ : Qu)).bc 7)) := Lib.hid (by rw [HE.out, hx]; rfl)
  clear e hx HE
  have HE := HE1
  clear HE1
  go_upto_region 7 with (fail)
  have hq1 := ((HQ.out.setC HF.out x6).frame (Fr.drew _) (fun h => h))
  have hfr1 := (HFR.out.trans (Fr.setCell v5 ⟨B, c, none⟩ (.int .u32 (x6 : Int))) (fun _ h => h) (fun _ h => .inl h)).thenNon (Fr.drew _)
  generalize (v5.setCell ⟨B, c, none⟩ (.int .u32 (x6 : Int))).drew = v6 at hq1 hfr1 ⊢
  clear ca cb cc cd fa fb fc fd HQ HFR
  obtain ⟨ca, cb, cc, cd, fa, fb, fc, fd⟩ := hq1.cells HF.out HL.out
  simp only at ca cb cc cd
  have HQ := Lib.hid hq1
  have HFR := Lib.hid hfr1
  clear hq1 hfr1
  obtain ⟨x7, hx⟩ : ∃ x, x = rotl 7 (x3 ^^^ x6) := ⟨_, rfl⟩
  have ox7 : x7 < 4294967296 := by rw [hx]; exact rotl_lt (xor_lt32 ox3 ox6)
  have hcall : ∀ w, Calls Tryd.prog 50 #[.int .u32 (bits BinOp.xor IntKind.u32 (x3 : Int) (x6 : Int)), .int .i64 7] w fun e w' => e = .returned (.int .u32 (x7 : Int)) ∧ w' = w := fun w => by rw [hx]; exact rotX_any _ _ 7 w ox3 ox6 (by decide)
  have HE1 : Hid (quarter L a b c d = put4 L a b c d ⟨x4, x7, x6, x5⟩) := Lib.hid (by rw [HE.out, hx]; rfl)
  clear hx HE
  go_still_tail 16, (by kernel_rfl)
  still_call (hcall _)
  repeat still_step
  refine wpStill_nil ?_
  change wpList _ _ _ _ _ v6.drew
  clear hcall
  have HE := HE1
  clear HE1
  repeat (first | go_skip | go_step)
  have hq1 := ((HQ.out.setB HF.out x7).frame (Fr.drew _) (fun h => h))
  have hfr1 := (HFR.out.trans (Fr.setCell v6 ⟨B, b, none⟩ (.int .u32 (x7 : Int))) (fun _ h => h) (fun _ h => .inl h)).thenNon (Fr.drew _)
  generalize (v6.setCell ⟨B, b, none⟩ (.int .u32 (x7 : Int))).drew = v7 at hq1 hfr1 ⊢
  clear ca cb cc cd fa fb fc fd HQ HFR
  have HQ := Lib.hid hq1
  have HFR := Lib.hid hfr1
  clear hq1 hfr1
  have hq := HQ.out.blk
  rw [← HE.out] at hq
  exact bodyPost_end (v := .tuple #[]) (by simp [results, Tryd.results44]) rfl ⟨rfl, hq, HFR.out⟩
end Go.Proofs.YthfpkdbhihcniaaDoor

/- package stream: a word; the words of a block -/
namespace Go.Proofs.YthfpkdbhihcniaaDoor
open Go.ChangeShapes Go.WideShapes Go.ChangeAt Go.RowKit

theorem orLe4 (x0 x1 x2 x3 : Nat) (h0 : x0 < 256) (h1 : x1 < 256) (h2 : x2 < 256) (h3 : x3 < 256) :
    bits BinOp.or IntKind.u32 (bits BinOp.or IntKind.u32 (bits BinOp.or IntKind.u32 (x0 : Int) ((x1 : Int) * 256)) ((x2 : Int) * 65536)) ((x3 : Int) * 16777216) = ((x0 + x1 * 256 + x2 * 65536 + x3 * 16777216 : Nat) : Int) := by
  rw [show (x1 : Int) * 256 = ((x1 * 256 : Nat) : Int) by omega, show (x2 : Int) * 65536 = ((x2 * 65536 : Nat) : Int) by omega, show (x3 : Int) * 16777216 = ((x3 * 16777216 : Nat) : Int) by omega]
  have a1 : x0 ||| x1 * 256 = x1 * 256 + x0 := by
    have := Nat.two_pow_add_eq_or_of_lt (i := 8) (b := x0) (by omega) x1
    rw [Nat.mul_comm] at this; rw [Nat.or_comm]; exact this.symm
  have a2 : x1 * 256 + x0 ||| x2 * 65536 = x2 * 65536 + (x1 * 256 + x0) := by
    have := Nat.two_pow_add_eq_or_of_lt (i := 16) (b := x1 * 256 + x0) (by omega) x2
    rw [Nat.mul_comm] at this; rw [Nat.or_comm]; exact this.symm
  have a3 : x2 * 65536 + (x1 * 256 + x0) ||| x3 * 16777216 = x3 * 16777216 + (x2 * 65536 + (x1 * 256 + x0)) := by
    have := Nat.two_pow_add_eq_or_of_lt (i := 24) (b := x2 * 65536 + (x1 * 256 + x0)) (by omega) x3
    rw [Nat.mul_comm] at this; rw [Nat.or_comm]; exact this.symm
  rw [u32_or_nat _ _ (by omega) (by omega), a1, u32_or_nat _ _ (by omega) (by omega), a2, u32_or_nat _ _ (by omega) (by omega), a3]
  omega
set_option maxRecDepth 100000 in
set_option maxHeartbeats 1000000 in
theorem wordS_any (x0 x1 x2 x3 : Nat) (w : World) (g0 : x0 < 256) (g1 : x1 < 256) (g2 : x2 < 256) (g3 : x3 < 256) :
    Calls Tryd.prog 43 #[.agg #[.int .u8 x0, .int .u8 x1, .int .u8 x2, .int .u8 x3]] w fun e w' => e = .returned (.int .u32 ((x0 + x1 * 256 + x2 * 65536 + x3 * 16777216 : Nat) : Int)) ∧ Fr Non w w' := by
  go_enter Tryd.func43, Tryd.ntmps43
  go_wp2
  go_ret
  exact ⟨retInt (orLe4 x0 x1 x2 x3 g0 g1 g2 g3), Fr.alloc _ _⟩
end Go.Proofs.YthfpkdbhihcniaaDoor

/- package stream: the words of a block -/
namespace Go.Proofs.YthfpkdbhihcniaaDoor
open Go.ChangeShapes Go.WideShapes Go.ChangeAt Go.RowKit

/-- the four words that stand ahead of the key's -/
def StartAt (w : World) (g : Nat) : Prop := ∀ i, i < 4 → w.cell? ⟨g, i, none⟩ = some (.int .u32 (streamStart[i]! : Int))
theorem StartAt.non {w w' : World} {g : Nat} (h : StartAt w g) (f : Fr Non w w') : StartAt w' g := fun i hi => f.cell (h i hi) (fun h => h)
set_option maxRecDepth 100000 in
set_option maxHeartbeats 4000000 in
theorem begun_any (key nonce : List UInt8) (count : Nat) (w : World) (hk : key.length = 32) (hn : nonce.length = 12) (hc : count < 4294967296) (hS : StartAt w 1) :
    Calls Tryd.prog 33 #[.agg (bs key).toArray, .agg (bs nonce).toArray, .int .u32 count] w fun e w' => e = .returned (.agg (us (begun key nonce count)).toArray) ∧ Fr Non w w' := by
  have hg : 1 < w.heap.size := World.block_lt_of_cell? _ _ (hS 0 (by omega))
  have B1 := Lib.hid (begun_start key nonce count)
  have B2 := Lib.hid (begun_key key nonce count)
  have B3 := Lib.hid (begun_count key nonce count)
  have B4 := Lib.hid (begun_nonce key nonce count)
  have BL := Lib.hid (begun_ok key nonce hc).1
  obtain ⟨b, hb⟩ : ∃ b, b = begun key nonce count := ⟨_, rfl⟩
  rw [← hb] at B1 B2 B3 B4 BL
  have HBE := Lib.hid hb
  have HK := Lib.hid hk
  have HN := Lib.hid hn
  have HS := Lib.hid hS
  have HG := Lib.hid hg
  clear hk hn hS hg hb hc
  go_enter Tryd.func33, Tryd.ntmps33
  go_wp2_with fail
  have hb1 := Blk.new w 22 (bs key)
  have hf1 := Fr.alloc w (.cells (bs key).toArray 22)
  have hs1 : (w.alloc (.cells (bs key).toArray 22)).heap.size = w.heap.size + 1 := by simp
  generalize w.alloc (.cells (bs key).toArray 22) = w1 at hb1 hf1 hs1 ⊢
  have hb2 := Blk.new w1 25 (bs nonce)
  have hf2 := Fr.alloc w1 (.cells (bs nonce).toArray 25)
  have hs2 : (w1.alloc (.cells (bs nonce).toArray 25)).heap.size = w1.heap.size + 1 := by simp
  generalize w1.alloc (.cells (bs nonce).toArray 25) = w2 at hb2 hf2 hs2 ⊢
  have hb3 : Blk (w2.alloc (.cells #[.int .u32 0, .int .u32 0, .int .u32 0, .int .u32 0, .int .u32 0, .int .u32 0, .int .u32 0, .int .u32 0, .int .u32 0, .int .u32 0, .int .u32 0, .int .u32 0, .int .u32 0, .int .u32 0, .int .u32 0, .int .u32 0] 64)) w2.heap.size 64 (us (List.replicate 16 0)) := Blk.new w2 _ _
  have hf3 := Fr.alloc w2 (.cells #[.int .u32 0, .int .u32 0, .int .u32 0, .int .u32 0, .int .u32 0, .int .u32 0, .int .u32 0, .int .u32 0, .int .u32 0, .int .u32 0, .int .u32 0, .int .u32 0, .int .u32 0, .int .u32 0, .int .u32 0, .int .u32 0] 64)
  have hs3 : (w2.alloc (.cells #[.int .u32 0, .int .u32 0, .int .u32 0, .int .u32 0, .int .u32 0, .int .u32 0, .int .u32 0, .int .u32 0, .int .u32 0, .int .u32 0, .int .u32 0, .int .u32 0, .int .u32 0, .int .u32 0, .int .u32 0, .int .u32 0] 64)).heap.size = w2.heap.size + 1 := by simp
  generalize w2.alloc (.cells #[.int .u32 0, .int .u32 0, .int .u32 0, .int .u32 0, .int .u32 0, .int .u32 0, .int .u32 0, .int .u32 0, .int .u32 0, .int .u32 0, .int .u32 0, .int .u32 0, .int .u32 0, .int .u32 0, .int .u32 0, .int .u32 0] 64) = w3 at hb3 hf3 hs3 ⊢
  have hb4 : Blk (w3.alloc (.cells #[.int .u32 0, .int .u32 0, .int .u32 0, .int .u32 0, .int .u32 0, .int .u32 0, .int .u32 0, .int .u32 0, .int .u32 0, .int .u32 0, .int .u32 0, .int .u32 0, .int .u32 0, .int .u32 0, .int .u32 0, .int .u32 0] 64)) w3.heap.size 64 (us (List.replicate 16 0)) := Blk.new w3 _ _
  have hf4 := Fr.alloc w3 (.cells #[.int .u32 0, .int .u32 0, .int .u32 0, .int .u32 0, .int .u32 0, .int .u32 0, .int .u32 0, .int .u32 0, .int .u32 0, .int .u32 0, .int .u32 0, .int .u32 0, .int .u32 0, .int .u32 0, .int .u32 0, .int .u32 0] 64)
  generalize w3.alloc (.cells #[.int .u32 0, .int .u32 0, .int .u32 0, .int .u32 0, .int .u32 0, .int .u32 0, .int .u32 0, .int .u32 0, .int .u32 0, .int .u32 0, .int .u32 0, .int .u32 0, .int .u32 0, .int .u32 0, .int .u32 0, .int .u32 0] 64) = w4 at hb4 hf4 ⊢
  rw [hs1] at hb2 hs2
  rw [hs2] at hb3 hs3
  rw [hs3] at hb4
  have HKB := Lib.hid (((hb1.non hf2).non hf3).non hf4)
  have HNB := Lib.hid ((hb2.non hf3).non hf4)
  have HRB := Lib.hid (hb3.non hf4)
  have HFR := Lib.hid (((hf1.non hf2).non hf3).non hf4)
  obtain ⟨X, hX⟩ : ∃ X, X = w.heap.size + 1 + 1 + 1 := ⟨_, rfl⟩
  rw [← hX] at hb4 ⊢
  have HX := Lib.hid hX
  rw [← fillTo_0 b] at hb4
  clear hb1 hb2 hb3 hf1 hf2 hf3 hf4 hs1 hs2 hs3 hX
  go_loopw [11] (fun i wr => ∃ k : Nat, k ≤ 4 ∧ i = .int .i64 k ∧ Blk wr X 64 (us (fillTo b k)) ∧ Fr (One X) w4 wr) (fun i _ => 4 - (intOf i).toNat)
  case atStart => exact ⟨0, by omega, rfl, hb4, Fr.refl _ _⟩
  case round =>
    obtain ⟨k, hk, rfl, hbx, hfx⟩ := hrel
    have HBX := Lib.hid hbx
    have HFX := Lib.hid hfx
    clear hbx hfx
    by_cases hlt : k < 4
    · have cs : wr.cell? ⟨1, k, none⟩ = some (.int .u32 (streamStart[k]! : Int)) := HFX.out.cell (HFR.out.cell (HS.out k hlt) (fun h => h)) (fun h => by have h1 : 1 = X := h; have := HX.out; have := HG.out; omega)
      have hst := HBX.out.set k (.int .u32 (streamStart[k]! : Int))
      rw [us_set, ← B1.out k hlt, fillTo_set b BL.out k (by omega), B1.out k hlt] at hst
      obtain ⟨old, cu, fz⟩ := HBX.out.has k (by rw [us_length, fillTo_length b BL.out k (by omega)]; omega)
      have HST := Lib.hid hst
      clear hst
      generalize streamStart[k]! = x at cs HST
      have z0 : (0 : Int) ≤ (k : Int) := by omega
      have z1 : (k : Int) < 4 := by omega
      have z2 : (k : Int) < 16 := by omega
      go_wp2
      go_roundw
      case rel => exact ⟨k + 1, by omega, by go_num, HST.out, HFX.out.trans (Fr.setCell wr ⟨X, k, none⟩ _) (fun _ h => h) (fun _ h => .inl h)⟩
      case measure => simp [intOf]; omega
    · obtain rfl : k = 4 := by omega
      go_wp2
      rw [show ((4 : Nat) : Int) = 4 from rfl]
      have hbx := HBX.out
      have hfx := HFX.out
      clear HBX HFX
      go_loopw [20] (fun i wr => ∃ k : Nat, k ≤ 8 ∧ i = .int .i64 k ∧ Blk wr X 64 (us (fillTo b (4 + k))) ∧ Fr (One X) w4 wr) (fun i _ => 8 - (intOf i).toNat)
      case atStart => exact ⟨0, by omega, rfl, hbx, hfx⟩
      case round =>
        clear hbx hfx
        obtain ⟨k, hk, rfl, hbx, hfx⟩ := hrel
        have HBX := Lib.hid hbx
        have HFX := Lib.hid hfx
        clear hbx hfx
        by_cases hlt : k < 8
        · obtain ⟨j, hj⟩ : ∃ j, j = 4 * k := ⟨_, rfl⟩
          have hc : ∀ i, i < 32 → wr.cell? ⟨w.heap.size, i, none⟩ = some (.int .u8 ((key[i]!).toNat : Int)) := fun i hi =>
            ((HKB.out.frame HFX.out (fun h => by have h1 : w.heap.size = X := h; have := HX.out; omega)).at i _ (by simp [bs, HK.out, hi])).1
          have c0 := hc j (by omega)
          have c1 := hc (j + 1) (by omega)
          have c2 := hc (j + 2) (by omega)
          have c3 := hc (j + 3) (by omega)
          have g0 := key[j]!.toNat_lt
          have g1 := key[j + 1]!.toNat_lt
          have g2 := key[j + 2]!.toNat_lt
          have g3 := key[j + 3]!.toNat_lt
          have E : Hid (b[4 + k]! = key[j]!.toNat + key[j + 1]!.toNat * 256 + key[j + 2]!.toNat * 65536 + key[j + 3]!.toNat * 16777216) := Lib.hid (by rw [B2.out k hlt, hj]; rfl)
          have hset := fillTo_set b BL.out (4 + k) (by omega)
          have HSET := Lib.hid hset
          generalize key[j]!.toNat = x0 at c0 g0 E
          generalize key[j + 1]!.toNat = x1 at c1 g1 E
          generalize key[j + 2]!.toNat = x2 at c2 g2 E
          generalize key[j + 3]!.toNat = x3 at c3 g3 E
          have hlo := run_arrLo (P := Tryd.prog) Tryd.underlying22 (by kernel_rfl) w.heap.size 0 .i64 (j : Int) j rfl (by omega)
          rw [Nat.zero_add] at hlo
          have h4 : 4 ≤ 32 - j := by omega
          have harr : ∀ w', (Instr.arrayAt 79 (.slice (some ⟨w.heap.size, j, none⟩) (32 - j) (32 - j))).run Tryd.prog w' = .ok (.pointer (some ⟨w.heap.size, j, none⟩)) w' := fun w' => run_arrayAt (P := Tryd.prog) (w := w') 79 5 4 (some ⟨w.heap.size, j, none⟩) (32 - j) (32 - j) Tryd.underlying79 h4
          have e0 : IntKind.i64.wrap (4 * (k : Int)) = (j : Int) := by rw [IntWalk.i64_in _ (by omega)]; omega
          have e1 : IntKind.i64.wrap (4 + (k : Int)) = 4 + (k : Int) := IntWalk.i64_in _ (by omega)
          have t1 : ((4 : Int) + (k : Int)).toNat = 4 + k := by omega
          have z0 : (0 : Int) ≤ (k : Int) := by omega
          have z1 : (k : Int) < 8 := by omega
          have z2 : (0 : Int) ≤ 4 + (k : Int) := by omega
          have z3 : (4 : Int) + (k : Int) < 16 := by omega
          obtain ⟨old, cu, fz⟩ := HBX.out.has (4 + k) (by rw [us_length, fillTo_length b BL.out _ (by omega)]; omega)
          clear hc hj hset
          go_wp2_with fail
          refine (wordS_any x0 x1 x2 x3 _ g0 g1 g2 g3).mono ?_
          rintro e wn ⟨rfl, hfn⟩
          have hbn := HBX.out.non hfn
          have hst := hbn.set (4 + k) (.int .u32 ((x0 + x1 * 256 + x2 * 65536 + x3 * 16777216 : Nat) : Int))
          rw [us_set, ← E.out, HSET.out, E.out] at hst
          have HST := Lib.hid hst
          have HFN := Lib.hid hfn
          replace cu := hfn.cell cu (fun h => h)
          obtain ⟨-, -, fz2⟩ := hbn.has (4 + k) (by rw [us_length, fillTo_length b BL.out _ (by omega)]; omega)
          clear hbn hst hfn c0 c1 c2 c3 hlo harr e0 fz
          generalize x0 + x1 * 256 + x2 * 65536 + x3 * 16777216 = x at HST ⊢
          go_wp2
          go_roundw
          case rel => exact ⟨k + 1, by omega, by go_num, HST.out, (HFX.out.thenNon HFN.out).trans (Fr.setCell wn ⟨X, 4 + k, none⟩ _) (fun _ h => h) (fun _ h => .inl h)⟩
          case measure => simp [intOf]; omega
        · obtain rfl : k = 8 := by omega
          obtain ⟨old, cu, fz⟩ := HBX.out.has 12 (by rw [us_length, fillTo_length b BL.out _ (by omega)]; omega)
          have h12 := HBX.out.set 12 (.int .u32 (count : Int))
          rw [us_set, ← B3.out, fillTo_set b BL.out 12 (by omega), B3.out] at h12
          have HBX2 := Lib.hid h12
          have HFX2 := Lib.hid (HFX.out.trans (Fr.setCell wr ⟨X, 12, none⟩ (.int .u32 (count : Int))) (fun _ h => h) (fun _ h => .inl h))
          go_wp2
          rw [show ((8 : Nat) : Int) = 8 from rfl]
          generalize wr.setCell ⟨X, 12, none⟩ (.int .u32 (count : Int)) = wq at HBX2 HFX2 ⊢
          have hbx := HBX2.out
          have hfx := HFX2.out
          clear HBX HFX HBX2 HFX2 h12 cu fz old
          go_loopw [35] (fun i wr => ∃ k : Nat, k ≤ 3 ∧ i = .int .i64 k ∧ Blk wr X 64 (us (fillTo b (13 + k))) ∧ Fr (One X) w4 wr) (fun i _ => 3 - (intOf i).toNat)
          case atStart => exact ⟨0, by omega, rfl, hbx, hfx⟩
          case round =>
            clear hbx hfx
            obtain ⟨k, hk, rfl, hbx, hfx⟩ := hrel
            have HBX := Lib.hid hbx
            have HFX := Lib.hid hfx
            clear hbx hfx
            by_cases hlt : k < 3
            · obtain ⟨j, hj⟩ : ∃ j, j = 4 * k := ⟨_, rfl⟩
              have hc : ∀ i, i < 12 → wr.cell? ⟨w.heap.size + 1, i, none⟩ = some (.int .u8 ((nonce[i]!).toNat : Int)) := fun i hi =>
                ((HNB.out.frame HFX.out (fun h => by have h1 : w.heap.size + 1 = X := h; have := HX.out; omega)).at i _ (by simp [bs, HN.out, hi])).1
              have c0 := hc j (by omega)
              have c1 := hc (j + 1) (by omega)
              have c2 := hc (j + 2) (by omega)
              have c3 := hc (j + 3) (by omega)
              have g0 := nonce[j]!.toNat_lt
              have g1 := nonce[j + 1]!.toNat_lt
              have g2 := nonce[j + 2]!.toNat_lt
              have g3 := nonce[j + 3]!.toNat_lt
              have E : Hid (b[13 + k]! = nonce[j]!.toNat + nonce[j + 1]!.toNat * 256 + nonce[j + 2]!.toNat * 65536 + nonce[j + 3]!.toNat * 16777216) := Lib.hid (by rw [B4.out k hlt, hj]; rfl)
              have hset := fillTo_set b BL.out (13 + k) (by omega)
              have HSET := Lib.hid hset
              generalize nonce[j]!.toNat = x0 at c0 g0 E
              generalize nonce[j + 1]!.toNat = x1 at c1 g1 E
              generalize nonce[j + 2]!.toNat = x2 at c2 g2 E
              generalize nonce[j + 3]!.toNat = x3 at c3 g3 E
              have hlo := run_arrLo (P := Tryd.prog) Tryd.underlying25 (by kernel_rfl) (w.heap.size + 1) 0 .i64 (j : Int) j rfl (by omega)
              rw [Nat.zero_add] at hlo
              have h4 : 4 ≤ 12 - j := by omega
              have harr : ∀ w', (Instr.arrayAt 79 (.slice (some ⟨w.heap.size + 1, j, none⟩) (12 - j) (12 - j))).run Tryd.prog w' = .ok (.pointer (some ⟨w.heap.size + 1, j, none⟩)) w' := fun w' => run_arrayAt (P := Tryd.prog) (w := w') 79 5 4 (some ⟨w.heap.size + 1, j, none⟩) (12 - j) (12 - j) Tryd.underlying79 h4
              have e0 : IntKind.i64.wrap (4 * (k : Int)) = (j : Int) := by rw [IntWalk.i64_in _ (by omega)]; omega
              have e1 : IntKind.i64.wrap (13 + (k : Int)) = 13 + (k : Int) := IntWalk.i64_in _ (by omega)
              have t1 : ((13 : Int) + (k : Int)).toNat = 13 + k := by omega
              have z0 : (0 : Int) ≤ (k : Int) := by omega
              have z1 : (k : Int) < 3 := by omega
              have z2 : (0 : Int) ≤ 13 + (k : Int) := by omega
              have z3 : (13 : Int) + (k : Int) < 16 := by omega
              obtain ⟨old, cu, fz⟩ := HBX.out.has (13 + k) (by rw [us_length, fillTo_length b BL.out _ (by omega)]; omega)
              clear hc hj hset
              go_wp2_with fail
              refine (wordS_any x0 x1 x2 x3 _ g0 g1 g2 g3).mono ?_
              rintro e wn ⟨rfl, hfn⟩
              have hbn := HBX.out.non hfn
              have hst := hbn.set (13 + k) (.int .u32 ((x0 + x1 * 256 + x2 * 65536 + x3 * 16777216 : Nat) : Int))
              rw [us_set, ← E.out, HSET.out, E.out] at hst
              have HST := Lib.hid hst
              have HFN := Lib.hid hfn
              replace cu := hfn.cell cu (fun h => h)
              obtain ⟨-, -, fz2⟩ := hbn.has (13 + k) (by rw [us_length, fillTo_length b BL.out _ (by omega)]; omega)
              clear hbn hst hfn c0 c1 c2 c3 hlo harr e0 fz
              generalize x0 + x1 * 256 + x2 * 65536 + x3 * 16777216 = x at HST ⊢
              go_wp2
              go_roundw
              case rel => exact ⟨k + 1, by omega, by go_num, HST.out, (HFX.out.thenNon HFN.out).trans (Fr.setCell wn ⟨X, 13 + k, none⟩ _) (fun _ h => h) (fun _ h => .inl h)⟩
              case measure => simp [intOf]; omega
            · obtain rfl : k = 3 := by omega
              have hb16 := HBX.out
              rw [show 13 + 3 = 16 from rfl, fillTo_16 b BL.out] at hb16
              have hfw := HFR.out.new HFX.out (fun i h => by have h1 : i = X := h; have := HX.out; omega)
              have hrb := HRB.out.frame HFX.out (fun h => by have h1 : w.heap.size + 1 + 1 = X := h; have := HX.out; omega)
              have hyl : (us b).length = 16 := by rw [us_length]; exact BL.out
              have hy1 := us_one b
              obtain ⟨ys, hys⟩ : ∃ ys, ys = us b := ⟨_, rfl⟩
              rw [← hys] at hb16 hyl hy1
              have HYS : Hid (ys = us (begun key nonce count)) := Lib.hid (by rw [hys, HBE.out])
              have hi : (Tryd.prog.info? 64).map (·.size) = some ys.length := by rw [hyl]; kernel_rfl
              clear hys HBX HFX HFR HRB HKB HNB HS B1 B2 B3 B4 HBE BL
              have HB16 := Lib.hid (And.intro hb16 (And.intro hfw (And.intro hrb (And.intro hyl (And.intro hy1 hi)))))
              clear hb16 hfw hrb hyl hy1 hi
              go_upto_region 18 with (fail)
              refine wp_region_lit ?_
              refine wpList_whole rfl rfl 64 48 (.tmp 7) (.tmp 6) rfl rfl rfl rfl X (w.heap.size + 1 + 1) _ _ ys _ HB16.out.1 HB16.out.2.2.1 (by rw [HB16.out.2.2.2.1]; rfl) _ Tryd.underlying64 rfl HB16.out.2.2.2.2.2 HB16.out.2.2.2.2.1 (by simp) rfl (fun _ => rfl) ?_
              intro w' hb' hf' _
              have HRV := Lib.hid (hb'.loadVar (P := Tryd.prog) 64 _ Tryd.underlying64 rfl HB16.out.2.2.2.2.2)
              have HFF : Hid (Fr Non w w') := Lib.hid (HB16.out.2.1.new hf' (fun i h => by have h1 : i = w.heap.size + 1 + 1 := h; omega))
              clear hb' hf' HB16
              repeat (first | go_skip | go_step)
              refine bodyPost_ret (v := .agg ys.toArray) (by have h := HRV.out; simp [results, Tryd.results33, asAddr, h]) rfl ⟨by rw [HYS.out], HFF.out⟩
end Go.Proofs.YthfpkdbhihcniaaDoor

/- package stream: the rounds -/
namespace Go.Proofs.YthfpkdbhihcniaaDoor
open Go.ChangeShapes Go.WideShapes Go.ChangeAt Go.RowKit

theorem fourDown (k : Nat) (h : k < 4) : Four k (4 + k) (8 + k) (12 + k) := by constructor <;> omega
theorem fourAslant (k : Nat) (h : k < 4) : Four k (4 + (k + 1) % 4) (8 + (k + 2) % 4) (12 + (k + 3) % 4) := by constructor <;> omega
set_option maxRecDepth 100000 in
set_option maxHeartbeats 4000000 in
theorem stirred_any (y : List Nat) (w : World) (hy : Ws y) :
    Calls Tryd.prog 34 #[.agg (us y).toArray] w fun e w' => e = .returned (.agg (us (stirs 10 y)).toArray) ∧ Fr Non w w' := by
  have HY := Lib.hid hy
  clear hy
  go_enter Tryd.func34, Tryd.ntmps34
  go_wp2_with fail
  have hb1 := Blk.new w 64 (us y)
  have hf1 := Fr.alloc w (.cells (us y).toArray 64)
  have hs1 : (w.alloc (.cells (us y).toArray 64)).heap.size = w.heap.size + 1 := by simp
  generalize w.alloc (.cells (us y).toArray 64) = w1 at hb1 hf1 hs1 ⊢
  have hb2 : Blk (w1.alloc (.cells #[.int .u32 0, .int .u32 0, .int .u32 0, .int .u32 0, .int .u32 0, .int .u32 0, .int .u32 0, .int .u32 0, .int .u32 0, .int .u32 0, .int .u32 0, .int .u32 0, .int .u32 0, .int .u32 0, .int .u32 0, .int .u32 0] 64)) w1.heap.size 64 (us (List.replicate 16 0)) := Blk.new w1 _ _
  have hf2 := Fr.alloc w1 (.cells #[.int .u32 0, .int .u32 0, .int .u32 0, .int .u32 0, .int .u32 0, .int .u32 0, .int .u32 0, .int .u32 0, .int .u32 0, .int .u32 0, .int .u32 0, .int .u32 0, .int .u32 0, .int .u32 0, .int .u32 0, .int .u32 0] 64)
  generalize w1.alloc (.cells #[.int .u32 0, .int .u32 0, .int .u32 0, .int .u32 0, .int .u32 0, .int .u32 0, .int .u32 0, .int .u32 0, .int .u32 0, .int .u32 0, .int .u32 0, .int .u32 0, .int .u32 0, .int .u32 0, .int .u32 0, .int .u32 0] 64) = w2 at hb2 hf2 ⊢
  rw [hs1] at hb2
  have hbx := hb1.non hf2
  have HRB := Lib.hid hb2
  have HFR := Lib.hid (hf1.non hf2)
  obtain ⟨X, hX⟩ : ∃ X, X = w.heap.size := ⟨_, rfl⟩
  rw [← hX] at hbx ⊢
  have HX := Lib.hid hX
  clear hb1 hb2 hf1 hf2 hs1 hX
  have HB0 := Lib.hid hbx
  clear hbx
  go_loopw [5] (fun i wr => ∃ m : Nat, m ≤ 10 ∧ i = .int .i64 m ∧ Blk wr X 64 (us (stirs m y)) ∧ Fr (One X) w2 wr) (fun i _ => 10 - (intOf i).toNat)
  case atStart => exact ⟨0, by omega, rfl, HB0.out, Fr.refl _ _⟩
  case round =>
    obtain ⟨m, hm, rfl, hbx, hfx⟩ := hrel
    have HBX := Lib.hid hbx
    have HFX := Lib.hid hfx
    clear hbx hfx
    by_cases hmt : m < 10
    · have hok := stirs_ok HY.out m
      have HM : Hid (aslant 4 (downs 4 (stirs m y)) = stirs (m + 1) y) := Lib.hid rfl
      generalize stirs m y = s at HBX hok HM
      have HOK := Lib.hid hok
      have zm : (m : Int) < 10 := by omega
      clear hok
      go_wp2
      go_loopw [7] (fun i wq => ∃ k : Nat, k ≤ 4 ∧ i = .int .i64 k ∧ Blk wq X 64 (us (downs k s)) ∧ Fr (One X) w2 wq) (fun i _ => 4 - (intOf i).toNat)
      case atStart => exact ⟨0, by omega, rfl, HBX.out, HFX.out⟩
      case round =>
        obtain ⟨k, hk, rfl, hbq, hfq⟩ := hrel
        have HBQ := Lib.hid hbq
        have HFQ := Lib.hid hfq
        clear hbq hfq
        by_cases hlt : k < 4
        · obtain ⟨p4, h4⟩ : ∃ p, p = 4 + k := ⟨_, rfl⟩
          obtain ⟨p8, h8⟩ : ∃ p, p = 8 + k := ⟨_, rfl⟩
          obtain ⟨p12, h12⟩ : ∃ p, p = 12 + k := ⟨_, rfl⟩
          have e4 : IntKind.i64.wrap (4 + (k : Int)) = (p4 : Int) := by rw [IntWalk.i64_in _ (by omega)]; omega
          have e8 : IntKind.i64.wrap (8 + (k : Int)) = (p8 : Int) := by rw [IntWalk.i64_in _ (by omega)]; omega
          have e12 : IntKind.i64.wrap (12 + (k : Int)) = (p12 : Int) := by rw [IntWalk.i64_in _ (by omega)]; omega
          have hfour := fourDown k hlt
          have HD : Hid (quarter (downs k s) k p4 p8 p12 = downs (k + 1) s) := Lib.hid (by rw [h4, h8, h12]; rfl)
          rw [← h4, ← h8, ← h12] at hfour
          have HFO := Lib.hid hfour
          have z1 : (k : Int) < 4 := by omega
          clear hfour h4 h8 h12
          go_wp2_with fail
          refine (quarterS_any X 64 (downs k s) k p4 p8 p12 _ HBQ.out (downs_ok HOK.out k) HFO.out).mono ?_
          rintro e wn ⟨rfl, hbn, hfn⟩
          rw [HD.out] at hbn
          have HBN := Lib.hid hbn
          have HFN := Lib.hid (HFQ.out.trans hfn (fun _ h => h) (fun _ h => .inl h))
          clear hbn hfn e4 e8 e12
          go_wp2
          go_roundw
          case rel => exact ⟨k + 1, by omega, by go_num, HBN.out, HFN.out⟩
          case measure => simp [intOf]; omega
        · obtain rfl : k = 4 := by omega
          go_wp2
          rw [show ((4 : Nat) : Int) = 4 from rfl]
          obtain ⟨s2, hs2⟩ : ∃ s2, s2 = downs 4 s := ⟨_, rfl⟩
          have HBQ2 : Hid (Blk _ X 64 (us s2)) := Lib.hid (by rw [hs2]; exact HBQ.out)
          have HOK2 : Hid (Ws s2) := Lib.hid (by rw [hs2]; exact downs_ok HOK.out 4)
          have HM2 : Hid (aslant 4 s2 = stirs (m + 1) y) := Lib.hid (by rw [hs2]; exact HM.out)
          clear hs2 HBQ HM HOK
          go_loopw [19] (fun i wq => ∃ k : Nat, k ≤ 4 ∧ i = .int .i64 k ∧ Blk wq X 64 (us (aslant k s2)) ∧ Fr (One X) w2 wq) (fun i _ => 4 - (intOf i).toNat)
          case atStart => exact ⟨0, by omega, rfl, HBQ2.out, HFQ.out⟩
          case round =>
            clear HFQ HBQ2
            obtain ⟨k, hk, rfl, hbq, hfq⟩ := hrel
            have HBQ := Lib.hid hbq
            have HFQ := Lib.hid hfq
            clear hbq hfq
            by_cases hlt : k < 4
            · obtain ⟨p4, h4⟩ : ∃ p, p = 4 + (k + 1) % 4 := ⟨_, rfl⟩
              obtain ⟨p8, h8⟩ : ∃ p, p = 8 + (k + 2) % 4 := ⟨_, rfl⟩
              obtain ⟨p12, h12⟩ : ∃ p, p = 12 + (k + 3) % 4 := ⟨_, rfl⟩
              have e4 : Hid ((4 : Int) + ((k : Int) + 1) % 4 = (p4 : Int)) := Lib.hid (by omega)
              have e8 : Hid ((8 : Int) + ((k : Int) + 2) % 4 = (p8 : Int)) := Lib.hid (by omega)
              have e12 : Hid ((12 : Int) + ((k : Int) + 3) % 4 = (p12 : Int)) := Lib.hid (by omega)
              have hfour := fourAslant k hlt
              have HD : Hid (quarter (aslant k s2) k p4 p8 p12 = aslant (k + 1) s2) := Lib.hid (by rw [h4, h8, h12]; rfl)
              rw [← h4, ← h8, ← h12] at hfour
              have HFO := Lib.hid hfour
              have z1 : (k : Int) < 4 := by omega
              clear hfour h4 h8 h12
              go_wp2_with fail
              rw [e4.out, e8.out, e12.out]
              refine (quarterS_any X 64 (aslant k s2) k p4 p8 p12 _ HBQ.out (aslant_ok HOK2.out k) HFO.out).mono ?_
              rintro e wn ⟨rfl, hbn, hfn⟩
              rw [HD.out] at hbn
              have HBN := Lib.hid hbn
              have HFN := Lib.hid (HFQ.out.trans hfn (fun _ h => h) (fun _ h => .inl h))
              clear hbn hfn
              go_wp2
              go_roundw
              case rel => exact ⟨k + 1, by omega, by go_num, HBN.out, HFN.out⟩
              case measure => simp [intOf]; omega
            · obtain rfl : k = 4 := by omega
              have HBN : Hid (Blk _ X 64 (us (stirs (m + 1) y))) := Lib.hid (by rw [← HM2.out]; exact HBQ.out)
              clear HBQ HM2 HOK2
              go_wp2
              go_roundw
              case rel => exact ⟨m + 1, by omega, by go_num, HBN.out, HFQ.out⟩
              case measure => simp [intOf]; omega
    · obtain rfl : m = 10 := by omega
      have hw := stirs_ok HY.out 10
      have hfw := HFR.out.new HFX.out (fun i h => by have h1 : i = X := h; have := HX.out; omega)
      have hrb := HRB.out.frame HFX.out (fun h => by have h1 : w.heap.size + 1 = X := h; have := HX.out; omega)
      have hyl : (us (stirs 10 y)).length = 16 := by rw [us_length]; exact hw.1
      have hy1 := us_one (stirs 10 y)
      obtain ⟨ys, hys⟩ : ∃ ys, ys = us (stirs 10 y) := ⟨_, rfl⟩
      have hb16 : Blk wr X 64 ys := by rw [hys]; exact HBX.out
      rw [← hys] at hyl hy1
      have HYS := Lib.hid hys
      have hi : (Tryd.prog.info? 64).map (·.size) = some ys.length := by rw [hyl]; kernel_rfl
      have HB16 := Lib.hid (And.intro hb16 (And.intro hfw (And.intro hrb (And.intro hyl (And.intro hy1 hi)))))
      clear hys HBX HFX HFR HRB hb16 hfw hrb hyl hy1 hi hw
      go_upto_region 14 with (fail)
      refine wp_region_lit ?_
      refine wpList_whole rfl rfl 64 38 (.tmp 1) (.tmp 2) rfl rfl rfl rfl X (X + 1) _ _ ys _ HB16.out.1 (by rw [HX.out]; exact HB16.out.2.2.1) (by rw [HB16.out.2.2.2.1]; rfl) _ Tryd.underlying64 rfl HB16.out.2.2.2.2.2 HB16.out.2.2.2.2.1 (by simp) rfl (fun _ => rfl) ?_
      intro w' hb' hf' _
      have HRV := Lib.hid (hb'.loadVar (P := Tryd.prog) 64 _ Tryd.underlying64 rfl HB16.out.2.2.2.2.2)
      have HFF : Hid (Fr Non w w') := Lib.hid (HB16.out.2.1.new hf' (fun i h => by have h1 : i = X + 1 := h; have := HX.out; omega))
      clear hb' hf' HB16
      repeat (first | go_skip | go_step)
      refine bodyPost_ret (v := .agg ys.toArray) (by have h := HRV.out; simp [results, Tryd.results34, asAddr, h]) rfl ⟨by rw [HYS.out], HFF.out⟩
end Go.Proofs.YthfpkdbhihcniaaDoor
