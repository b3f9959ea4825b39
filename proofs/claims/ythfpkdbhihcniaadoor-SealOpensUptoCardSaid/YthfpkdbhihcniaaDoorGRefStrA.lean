/- GRefStrA: StreamRefA, StreamRefB, one behind the other. -/
import Derived.Test.YthfpkdbhihcniaaDoorGround
import Derived.StillTailTactics
import Derived.Deep.RegionWith
import Derived.Deep.DeepCutAuto

/- the document's stream: turn, quarter, word -/
namespace Go.Proofs.YthfpkdbhihcniaaDoor
open Go.ChangeShapes Go.WideShapes Go.ChangeAt Go.RowKit

theorem orTurnL (x : Nat) (k : Int) (hx : x < 4294967296) (hk : 0 < k) (hk2 : k < 32) : bits BinOp.or IntKind.u32 ((x : Int) * 2 ^ k.toNat % 4294967296) ((x : Int) / 2 ^ (32 - k).toNat) = ((rotl k.toNat x : Nat) : Int) := by
  obtain ⟨n, rfl⟩ := Int.eq_ofNat_of_zero_le (show 0 ≤ k by omega)
  rw [show (32 - (n : Int)).toNat = 32 - n by omega, Int.toNat_natCast]
  have e1 : (x : Int) / 2 ^ (32 - n) = ((x / 2 ^ (32 - n) : Nat) : Int) := by rw [Int.natCast_ediv, Int.natCast_pow]; rfl
  have e2 : (x : Int) * 2 ^ n % 4294967296 = ((x * 2 ^ n % 4294967296 : Nat) : Int) := by rw [Int.natCast_emod, Int.natCast_mul, Int.natCast_pow]; rfl
  have h1 : x / 2 ^ (32 - n) ≤ x := Nat.div_le_self _ _
  rw [e1, e2, u32_or_nat _ _ (Nat.mod_lt _ (by omega)) (by omega), rotl_or (by omega) hx]
theorem turnL_any (x : Nat) (k : Int) (w : World) (hx : x < 4294967296) (hk : 0 < k) (hk2 : k < 32) :
    Calls Tryd.prog 47 #[.int .u32 x, .int .i64 k] w fun e w' => e = .returned (.int .u32 (rotl k.toNat x : Nat)) ∧ ∃ n, w' = w.drewN n := by
  go_enter Tryd.func47, Tryd.ntmps47
  go_wp2
  go_quiet (fail)
  go_wp2
  go_ret
  exact ⟨retInt (orTurnL x k hx hk hk2), _, rfl⟩

/-- block B holds sixteen words, four of them known -/
structure QB (w : World) (B t : Nat) (L : List Nat) (a b c d : Nat) (q : Qu) : Prop where
  blk : Blk w B t (us (put4 L a b c d q))
theorem QB.cells {w : World} {B t : Nat} {L : List Nat} {a b c d : Nat} {q : Qu} (h : QB w B t L a b c d q) (hf : Four a b c d) (hL : L.length = 16) :
    w.cell? ⟨B, a, none⟩ = some (.int .u32 (q.a : Int)) ∧ w.cell? ⟨B, b, none⟩ = some (.int .u32 (q.b : Int)) ∧ w.cell? ⟨B, c, none⟩ = some (.int .u32 (q.c : Int)) ∧ w.cell? ⟨B, d, none⟩ = some (.int .u32 (q.d : Int)) ∧
    w.frozen? ⟨B, a, none⟩ = false ∧ w.frozen? ⟨B, b, none⟩ = false ∧ w.frozen? ⟨B, c, none⟩ = false ∧ w.frozen? ⟨B, d, none⟩ = false := by
  obtain ⟨h1, k1⟩ := h.blk.at a _ (us_at? _ _ _ (put4_a hf hL q))
  obtain ⟨h2, k2⟩ := h.blk.at b _ (us_at? _ _ _ (put4_b hf hL q))
  obtain ⟨h3, k3⟩ := h.blk.at c _ (us_at? _ _ _ (put4_c hf hL q))
  obtain ⟨h4, k4⟩ := h.blk.at d _ (us_at? _ _ _ (put4_d hf hL q))
  exact ⟨h1, h2, h3, h4, k1, k2, k3, k4⟩
theorem QB.frame {w w' : World} {B t : Nat} {L : List Nat} {a b c d : Nat} {q : Qu} (h : QB w B t L a b c d q) {S : Nat → Prop} (f : Fr S w w') (hn : ¬ S B) : QB w' B t L a b c d q := ⟨h.blk.frame f hn⟩
section
variable {w : World} {B t : Nat} {L : List Nat} {a b c d : Nat} {q : Qu} (h : QB w B t L a b c d q) (hf : Four a b c d)
include h hf
theorem QB.setA (x : Nat) : QB (w.setCell ⟨B, a, none⟩ (.int .u32 (x : Int))) B t L a b c d ⟨x, q.b, q.c, q.d⟩ := ⟨by have := h.blk.set a (.int .u32 (x : Int)); rwa [us_set, put4_setA hf] at this⟩
theorem QB.setB (x : Nat) : QB (w.setCell ⟨B, b, none⟩ (.int .u32 (x : Int))) B t L a b c d ⟨q.a, x, q.c, q.d⟩ := ⟨by have := h.blk.set b (.int .u32 (x : Int)); rwa [us_set, put4_setB hf] at this⟩
theorem QB.setC (x : Nat) : QB (w.setCell ⟨B, c, none⟩ (.int .u32 (x : Int))) B t L a b c d ⟨q.a, q.b, x, q.d⟩ := ⟨by have := h.blk.set c (.int .u32 (x : Int)); rwa [us_set, put4_setC hf] at this⟩
omit hf in
theorem QB.setD (x : Nat) : QB (w.setCell ⟨B, d, none⟩ (.int .u32 (x : Int))) B t L a b c d ⟨q.a, q.b, q.c, x⟩ := ⟨by have := h.blk.set d (.int .u32 (x : Int)); rwa [us_set, put4_setD] at this⟩
end
end Go.Proofs.YthfpkdbhihcniaaDoor

/- the document's stream: a quarter -/
namespace Go.Proofs.YthfpkdbhihcniaaDoor
open Go.ChangeShapes Go.WideShapes Go.ChangeAt Go.RowKit

theorem turnX_any (x y : Nat) (k : Int) (w : World) (hx : x < 4294967296) (hy : y < 4294967296) (hk : 0 < k) (hk2 : k < 32) :
    Calls Tryd.prog 47 #[.int .u32 (bits BinOp.xor IntKind.u32 (x : Int) (y : Int)), .int .i64 k] w fun e w' => e = .returned (.int .u32 (rotl k.toNat (x ^^^ y) : Nat)) ∧ ∃ n, w' = w.drewN n := by
  rw [u32_xor_nat _ _ hx hy]
  exact turnL_any _ k w (xor_lt32 hx hy) hk hk2

set_option maxRecDepth 100000 in
set_option maxHeartbeats 4000000 in
theorem quarterL_any (L : List Nat) (a b c d : Nat) (w : World) (hL : Ws L) (hf : Four a b c d) :
    Calls Tryd.prog 40 #[.agg (us L).toArray, .int .i64 a, .int .i64 b, .int .i64 c, .int .i64 d] w fun e w' => e = .returned (.agg (us (quarter L a b c d)).toArray) ∧ Fr Non w w' := by
  have hqk : (get4 L a b c d).ok := get4_ok hL.2 a b c d
  have HF := Lib.hid hf
  have HL := Lib.hid hL.1
  have a1 := hf.ha
  have b1 := hf.hb
  have c1 := hf.hc
  have d1 := hf.hd
  have HE : Hid (quarter L a b c d = put4 L a b c d (get4 L a b c d).all) := Lib.hid rfl
  have HP := Lib.hid (put4_get4 L a b c d)
  have za : (0 : Int) ≤ (a : Int) := by omega
  have zb : (0 : Int) ≤ (b : Int) := by omega
  have zc : (0 : Int) ≤ (c : Int) := by omega
  have zd : (0 : Int) ≤ (d : Int) := by omega
  have ya : (a : Int) < 16 := by omega
  have yb : (b : Int) < 16 := by omega
  have yc : (c : Int) < 16 := by omega
  have yd : (d : Int) < 16 := by omega
  clear hL hf a1 b1 c1 d1
  generalize get4 L a b c d = q at hqk HE HP
  go_enter Tryd.func40, Tryd.ntmps40
  go_upto_region 1 with (fail)
  have hb := Blk.new w 64 (us L)
  have hf1 := Fr.alloc w (.cells (us L).toArray 64)
  have hs1 : (w.alloc (.cells (us L).toArray 64)).heap.size = w.heap.size + 1 := by simp
  generalize w.alloc (.cells (us L).toArray 64) = w1 at hb hf1 hs1 ⊢
  have hr : Blk (w1.alloc (.cells #[.int .u32 0, .int .u32 0, .int .u32 0, .int .u32 0, .int .u32 0, .int .u32 0, .int .u32 0, .int .u32 0, .int .u32 0, .int .u32 0, .int .u32 0, .int .u32 0, .int .u32 0, .int .u32 0, .int .u32 0, .int .u32 0] 64)) w1.heap.size 64 (us (List.replicate 16 0)) := Blk.new w1 _ _
  have hf2 := Fr.alloc w1 (.cells #[.int .u32 0, .int .u32 0, .int .u32 0, .int .u32 0, .int .u32 0, .int .u32 0, .int .u32 0, .int .u32 0, .int .u32 0, .int .u32 0, .int .u32 0, .int .u32 0, .int .u32 0, .int .u32 0, .int .u32 0, .int .u32 0] 64)
  generalize w1.alloc (.cells #[.int .u32 0, .int .u32 0, .int .u32 0, .int .u32 0, .int .u32 0, .int .u32 0, .int .u32 0, .int .u32 0, .int .u32 0, .int .u32 0, .int .u32 0, .int .u32 0, .int .u32 0, .int .u32 0, .int .u32 0, .int .u32 0] 64) = w2 at hr hf2 ⊢
  rw [hs1] at hr
  have hq : QB w2 w.heap.size 64 L a b c d q := ⟨by rw [HP.out]; exact hb.non hf2⟩
  have HR := Lib.hid hr
  have HFR := Lib.hid (hf1.non hf2)
  obtain ⟨B, hB⟩ : ∃ B, B = w.heap.size := ⟨_, rfl⟩
  rw [← hB] at hq ⊢
  have HB := Lib.hid hB
  obtain ⟨ca, cb, cc, cd, fa, fb, fc, fd⟩ := hq.cells HF.out HL.out
  have HQ := Lib.hid hq
  obtain ⟨qa, qb, qc, qd⟩ := q
  obtain ⟨oqa, oqb, oqc, oqd⟩ := hqk
  simp only at ca cb cc cd oqa oqb oqc oqd
  clear hb hf1 hf2 hs1 hr hB hq
  go_still_tail 9, (by kernel_rfl)
  change wpList _ _ _ _ _ w2.drew
  obtain ⟨x0, hx⟩ : ∃ x, x = (qa + qb) % 4294967296 := ⟨_, rfl⟩
  have e : IntKind.u32.wrap ((qa : Int) + (qb : Int)) = (x0 : Int) := by rw [hx]; go_num
  have ox0 : x0 < 4294967296 := by omega
  rw [e]
  have HE1 : Hid (quarter L a b c d = put4 L a b c d (((((((((⟨x0, qb, qc, qd⟩ : Qu)).da 16).cd).bc 12).ab).da 8).cd).bc 7)) := Lib.hid (by rw [HE.out, hx]; rfl)
  clear e hx HE
  have HE := HE1
  clear HE1
  go_upto_region 2 with (fail)
  have hq1 := ((HQ.out.setA HF.out x0).frame (Fr.drew _) (fun h => h))
  have hfr1 := (HFR.out.new (Fr.setCell w2 ⟨B, a, none⟩ (.int .u32 (x0 : Int))) (fun i h => by have h1 : i = B := h; have := HB.out; omega)).non (Fr.drew _)
  have hr1 := (HR.out.frame (Fr.setCell w2 ⟨B, a, none⟩ (.int .u32 (x0 : Int))) (fun h => by have h1 : w.heap.size + 1 = B := h; have := HB.out; omega)).non (Fr.drew _)
  generalize (w2.setCell ⟨B, a, none⟩ (.int .u32 (x0 : Int))).drew = v0 at hq1 hfr1 hr1 ⊢
  clear ca cb cc cd fa fb fc fd HQ HFR HR
  obtain ⟨ca, cb, cc, cd, fa, fb, fc, fd⟩ := hq1.cells HF.out HL.out
  simp only at ca cb cc cd
  have HQ := Lib.hid hq1
  have HFR := Lib.hid hfr1
  have HR := Lib.hid hr1
  clear hq1 hfr1 hr1
  obtain ⟨x1, hx⟩ : ∃ x, x = rotl 16 (qd ^^^ x0) := ⟨_, rfl⟩
  have ox1 : x1 < 4294967296 := by rw [hx]; exact rotl_lt (xor_lt32 oqd ox0)
  have hcall : ∀ w, Calls Tryd.prog 47 #[.int .u32 (bits BinOp.xor IntKind.u32 (qd : Int) (x0 : Int)), .int .i64 16] w fun e w' => e = .returned (.int .u32 (x1 : Int)) ∧ ∃ n, w' = w.drewN n := fun w => by rw [hx]; exact turnX_any _ _ 16 w oqd ox0 (by omega) (by omega)
  have HE1 : Hid (quarter L a b c d = put4 L a b c d ((((((((⟨x0, qb, qc, x1⟩ : Qu)).cd).bc 12).ab).da 8).cd).bc 7)) := Lib.hid (by rw [HE.out, hx]; rfl)
  clear hx HE
  have HE := HE1
  clear HE1
  go_cut [] (fun wx => QB wx B 64 L a b c d ⟨x0, qb, qc, x1⟩ ∧ Blk wx (w.heap.size + 1) 64 (us (List.replicate 16 0)) ∧ Fr Non w wx)
  case first =>
    go_region_with (go_simp; go_at_call 47; refine (hcall _).mono ?_; rintro e w' ⟨rfl, nq, rfl⟩)
    all_goals go_wp2_with fail
    all_goals go_meet
    all_goals
      have f1 : Fr Non v0 (v0.drewN (1 + nq)) := Fr.drewN _ _
      generalize v0.drewN (1 + nq) = wz at f1 ⊢
      exact ⟨(HQ.out.frame f1 (fun h => h)).setD x1, (HR.out.non f1).frame (Fr.setCell wz ⟨B, d, none⟩ _) (fun h => by have h1 : w.heap.size + 1 = B := h; have := HB.out; omega), (HFR.out.non f1).new (Fr.setCell wz ⟨B, d, none⟩ _) (fun i h => by have h1 : i = B := h; have := HB.out; omega)⟩
  case rest =>
  obtain ⟨hq1, hr1, hfr1⟩ := hcut
  generalize wc = v1 at hq1 hr1 hfr1 ⊢
  clear hcall
  go_upto_region 3 with (fail)
  clear ca cb cc cd fa fb fc fd HQ HFR HR
  obtain ⟨ca, cb, cc, cd, fa, fb, fc, fd⟩ := hq1.cells HF.out HL.out
  simp only at ca cb cc cd
  have HQ := Lib.hid hq1
  have HFR := Lib.hid hfr1
  have HR := Lib.hid hr1
  clear hq1 hfr1 hr1
  go_still_tail 9, (by kernel_rfl)
  change wpList _ _ _ _ _ v1.drew
  obtain ⟨x2, hx⟩ : ∃ x, x = (qc + x1) % 4294967296 := ⟨_, rfl⟩
  have e : IntKind.u32.wrap ((qc : Int) + (x1 : Int)) = (x2 : Int) := by rw [hx]; go_num
  have ox2 : x2 < 4294967296 := by omega
  rw [e]
  have HE1 : Hid (quarter L a b c d = put4 L a b c d (((((((⟨x0, qb, x2, x1⟩ : Qu)).bc 12).ab).da 8).cd).bc 7)) := Lib.hid (by rw [HE.out, hx]; rfl)
  clear e hx HE
  have HE := HE1
  clear HE1
  go_upto_region 4 with (fail)
  have hq1 := ((HQ.out.setC HF.out x2).frame (Fr.drew _) (fun h => h))
  have hfr1 := (HFR.out.new (Fr.setCell v1 ⟨B, c, none⟩ (.int .u32 (x2 : Int))) (fun i h => by have h1 : i = B := h; have := HB.out; omega)).non (Fr.drew _)
  have hr1 := (HR.out.frame (Fr.setCell v1 ⟨B, c, none⟩ (.int .u32 (x2 : Int))) (fun h => by have h1 : w.heap.size + 1 = B := h; have := HB.out; omega)).non (Fr.drew _)
  generalize (v1.setCell ⟨B, c, none⟩ (.int .u32 (x2 : Int))).drew = v2 at hq1 hfr1 hr1 ⊢
  clear ca cb cc cd fa fb fc fd HQ HFR HR
  obtain ⟨ca, cb, cc, cd, fa, fb, fc, fd⟩ := hq1.cells HF.out HL.out
  simp only at ca cb cc cd
  have HQ := Lib.hid hq1
  have HFR := Lib.hid hfr1
  have HR := Lib.hid hr1
  clear hq1 hfr1 hr1
  obtain ⟨x3, hx⟩ : ∃ x, x = rotl 12 (qb ^^^ x2) := ⟨_, rfl⟩
  have ox3 : x3 < 4294967296 := by rw [hx]; exact rotl_lt (xor_lt32 oqb ox2)
  have hcall : ∀ w, Calls Tryd.prog 47 #[.int .u32 (bits BinOp.xor IntKind.u32 (qb : Int) (x2 : Int)), .int .i64 12] w fun e w' => e = .returned (.int .u32 (x3 : Int)) ∧ ∃ n, w' = w.drewN n := fun w => by rw [hx]; exact turnX_any _ _ 12 w oqb ox2 (by omega) (by omega)
  have HE1 : Hid (quarter L a b c d = put4 L a b c d ((((((⟨x0, x3, x2, x1⟩ : Qu)).ab).da 8).cd).bc 7)) := Lib.hid (by rw [HE.out, hx]; rfl)
  clear hx HE
  have HE := HE1
  clear HE1
  go_cut [] (fun wx => QB wx B 64 L a b c d ⟨x0, x3, x2, x1⟩ ∧ Blk wx (w.heap.size + 1) 64 (us (List.replicate 16 0)) ∧ Fr Non w wx)
  case first =>
    go_region_with (go_simp; go_at_call 47; refine (hcall _).mono ?_; rintro e w' ⟨rfl, nq, rfl⟩)
    all_goals go_wp2_with fail
    all_goals go_meet
    all_goals
      have f1 : Fr Non v2 (v2.drewN (1 + nq)) := Fr.drewN _ _
      generalize v2.drewN (1 + nq) = wz at f1 ⊢
      exact ⟨(HQ.out.frame f1 (fun h => h)).setB HF.out x3, (HR.out.non f1).frame (Fr.setCell wz ⟨B, b, none⟩ _) (fun h => by have h1 : w.heap.size + 1 = B := h; have := HB.out; omega), (HFR.out.non f1).new (Fr.setCell wz ⟨B, b, none⟩ _) (fun i h => by have h1 : i = B := h; have := HB.out; omega)⟩
  case rest =>
  obtain ⟨hq1, hr1, hfr1⟩ := hcut
  generalize wc = v3 at hq1 hr1 hfr1 ⊢
  clear hcall
  go_upto_region 5 with (fail)
  clear ca cb cc cd fa fb fc fd HQ HFR HR
  obtain ⟨ca, cb, cc, cd, fa, fb, fc, fd⟩ := hq1.cells HF.out HL.out
  simp only at ca cb cc cd
  have HQ := Lib.hid hq1
  have HFR := Lib.hid hfr1
  have HR := Lib.hid hr1
  clear hq1 hfr1 hr1
  go_still_tail 9, (by kernel_rfl)
  change wpList _ _ _ _ _ v3.drew
  obtain ⟨x4, hx⟩ : ∃ x, x = (x0 + x3) % 4294967296 := ⟨_, rfl⟩
  have e : IntKind.u32.wrap ((x0 : Int) + (x3 : Int)) = (x4 : Int) := by rw [hx]; go_num
  have ox4 : x4 < 4294967296 := by omega
  rw [e]
  have HE1 : Hid (quarter L a b c d = put4 L a b c d (((((⟨x4, x3, x2, x1⟩ : Qu)).da 8).cd).bc 7)) := Lib.hid (by rw [HE.out, hx]; rfl)
  clear e hx HE
  have HE := HE1
  clear HE1
  go_upto_region 6 with (fail)
  have hq1 := ((HQ.out.setA HF.out x4).frame (Fr.drew _) (fun h => h))
  have hfr1 := (HFR.out.new (Fr.setCell v3 ⟨B, a, none⟩ (.int .u32 (x4 : Int))) (fun i h => by have h1 : i = B := h; have := HB.out; omega)).non (Fr.drew _)
  have hr1 := (HR.out.frame (Fr.setCell v3 ⟨B, a, none⟩ (.int .u32 (x4 : Int))) (fun h => by have h1 : w.heap.size + 1 = B := h; have := HB.out; omega)).non (Fr.drew _)
  generalize (v3.setCell ⟨B, a, none⟩ (.int .u32 (x4 : Int))).drew = v4 at hq1 hfr1 hr1 ⊢
  clear ca cb cc cd fa fb fc fd HQ HFR HR
  obtain ⟨ca, cb, cc, cd, fa, fb, fc, fd⟩ := hq1.cells HF.out HL.out
  simp only at ca cb cc cd
  have HQ := Lib.hid hq1
  have HFR := Lib.hid hfr1
  have HR := Lib.hid hr1
  clear hq1 hfr1 hr1
  obtain ⟨x5, hx⟩ : ∃ x, x = rotl 8 (x1 ^^^ x4) := ⟨_, rfl⟩
  have ox5 : x5 < 4294967296 := by rw [hx]; exact rotl_lt (xor_lt32 ox1 ox4)
  have hcall : ∀ w, Calls Tryd.prog 47 #[.int .u32 (bits BinOp.xor IntKind.u32 (x1 : Int) (x4 : Int)), .int .i64 8] w fun e w' => e = .returned (.int .u32 (x5 : Int)) ∧ ∃ n, w' = w.drewN n := fun w => by rw [hx]; exact turnX_any _ _ 8 w ox1 ox4 (by omega) (by omega)
  have HE1 : Hid (quarter L a b c d = put4 L a b c d ((((⟨x4, x3, x2, x5⟩ : Qu)).cd).bc 7)) := Lib.hid (by rw [HE.out, hx]; rfl)
  clear hx HE
  have HE := HE1
  clear HE1
  go_cut [] (fun wx => QB wx B 64 L a b c d ⟨x4, x3, x2, x5⟩ ∧ Blk wx (w.heap.size + 1) 64 (us (List.replicate 16 0)) ∧ Fr Non w wx)
  case first =>
    go_region_with (go_simp; go_at_call 47; refine (hcall _).mono ?_; rintro e w' ⟨rfl, nq, rfl⟩)
    all_goals go_wp2_with fail
    all_goals go_meet
    all_goals
      have f1 : Fr Non v4 (v4.drewN (1 + nq)) := Fr.drewN _ _
      generalize v4.drewN (1 + nq) = wz at f1 ⊢
      exact ⟨(HQ.out.frame f1 (fun h => h)).setD x5, (HR.out.non f1).frame (Fr.setCell wz ⟨B, d, none⟩ _) (fun h => by have h1 : w.heap.size + 1 = B := h; have := HB.out; omega), (HFR.out.non f1).new (Fr.setCell wz ⟨B, d, none⟩ _) (fun i h => by have h1 : i = B := h; have := HB.out; omega)⟩
  case rest =>
  obtain ⟨hq1, hr1, hfr1⟩ := hcut
  generalize wc = v5 at hq1 hr1 hfr1 ⊢
  clear hcall
  go_upto_region 7 with (fail)
  clear ca cb cc cd fa fb fc fd HQ HFR HR
  obtain ⟨ca, cb, cc, cd, fa, fb, fc, fd⟩ := hq1.cells HF.out HL.out
  simp only at ca cb cc cd
  have HQ := Lib.hid hq1
  have HFR := Lib.hid hfr1
  have HR := Lib.hid hr1
  clear hq1 hfr1 hr1
  go_still_tail 9, (by kernel_rfl)
  change wpList _ _ _ _ _ v5.drew
  obtain ⟨x6, hx⟩ : ∃ x, x = (x2 + x5) % 4294967296 := ⟨_, rfl⟩
  have e : IntKind.u32.wrap ((x2 : Int) + (x5 : Int)) = (x6 : Int) := by rw [hx]; go_num
  have ox6 : x6 < 4294967296 := by omega
  rw [e]
  have HE1 : Hid (quarter L a b c d = put4 L a b c d (((⟨x4, x3, x6, x5⟩ : Qu)).bc 7)) := Lib.hid (by rw [HE.out, hx]; rfl)
  clear e hx HE
  have HE := HE1
  clear HE1
  go_upto_region 8 with (fail)
  have hq1 := ((HQ.out.setC HF.out x6).frame (Fr.drew _) (fun h => h))
  have hfr1 := (HFR.out.new (Fr.setCell v5 ⟨B, c, none⟩ (.int .u32 (x6 : Int))) (fun i h => by have h1 : i = B := h; have := HB.out; omega)).non (Fr.drew _)
  have hr1 := (HR.out.frame (Fr.setCell v5 ⟨B, c, none⟩ (.int .u32 (x6 : Int))) (fun h => by have h1 : w.heap.size + 1 = B := h; have := HB.out; omega)).non (Fr.drew _)
  generalize (v5.setCell ⟨B, c, none⟩ (.int .u32 (x6 : Int))).drew = v6 at hq1 hfr1 hr1 ⊢
  clear ca cb cc cd fa fb fc fd HQ HFR HR
  obtain ⟨ca, cb, cc, cd, fa, fb, fc, fd⟩ := hq1.cells HF.out HL.out
  simp only at ca cb cc cd
  have HQ := Lib.hid hq1
  have HFR := Lib.hid hfr1
  have HR := Lib.hid hr1
  clear hq1 hfr1 hr1
  obtain ⟨x7, hx⟩ : ∃ x, x = rotl 7 (x3 ^^^ x6) := ⟨_, rfl⟩
  have ox7 : x7 < 4294967296 := by rw [hx]; exact rotl_lt (xor_lt32 ox3 ox6)
  have hcall : ∀ w, Calls Tryd.prog 47 #[.int .u32 (bits BinOp.xor IntKind.u32 (x3 : Int) (x6 : Int)), .int .i64 7] w fun e w' => e = .returned (.int .u32 (x7 : Int)) ∧ ∃ n, w' = w.drewN n := fun w => by rw [hx]; exact turnX_any _ _ 7 w ox3 ox6 (by omega) (by omega)
  have HE1 : Hid (quarter L a b c d = put4 L a b c d ⟨x4, x7, x6, x5⟩) := Lib.hid (by rw [HE.out, hx]; rfl)
  clear hx HE
  have HE := HE1
  clear HE1
  go_cut [] (fun wx => QB wx B 64 L a b c d ⟨x4, x7, x6, x5⟩ ∧ Blk wx (w.heap.size + 1) 64 (us (List.replicate 16 0)) ∧ Fr Non w wx)
  case first =>
    go_region_with (go_simp; go_at_call 47; refine (hcall _).mono ?_; rintro e w' ⟨rfl, nq, rfl⟩)
    all_goals go_wp2_with fail
    all_goals go_meet
    all_goals
      have f1 : Fr Non v6 (v6.drewN (1 + nq)) := Fr.drewN _ _
      generalize v6.drewN (1 + nq) = wz at f1 ⊢
      exact ⟨(HQ.out.frame f1 (fun h => h)).setB HF.out x7, (HR.out.non f1).frame (Fr.setCell wz ⟨B, b, none⟩ _) (fun h => by have h1 : w.heap.size + 1 = B := h; have := HB.out; omega), (HFR.out.non f1).new (Fr.setCell wz ⟨B, b, none⟩ _) (fun i h => by have h1 : i = B := h; have := HB.out; omega)⟩
  case rest =>
  obtain ⟨hq1, hr1, hfr1⟩ := hcut
  generalize wc = v7 at hq1 hr1 hfr1 ⊢
  clear hcall
  clear ca cb cc cd fa fb fc fd HQ HFR HR
  have HQ := Lib.hid hq1
  have HFR := Lib.hid hfr1
  have HR := Lib.hid hr1
  clear hq1 hfr1 hr1
  go_upto_region 9 with (fail)
  have hq := HQ.out.blk
  rw [← HE.out] at hq
  have hyl : (us (quarter L a b c d)).length = 16 := by rw [us_length, quarter, put4_length]; exact HL.out
  have hy1 := us_one (quarter L a b c d)
  clear HE HQ HP
  obtain ⟨ys, hys⟩ : ∃ ys, ys = us (quarter L a b c d) := ⟨_, rfl⟩
  rw [← hys] at hq hyl hy1
  have HYS := Lib.hid hys
  clear hys
  have hi : (Tryd.prog.info? 64).map (·.size) = some ys.length := by rw [hyl]; kernel_rfl
  refine wp_region_lit ?_
  refine wpList_whole rfl rfl 64 87 (.tmp 5) (.tmp 10) rfl rfl rfl rfl B (B + 1) _ _ ys _ hq (by have h := HR.out; rw [← HB.out] at h; exact h) (by rw [hyl]; rfl) _ Tryd.underlying64 rfl hi hy1 (by simp) rfl (fun _ => rfl) ?_
  intro w' hb' hf' _
  have hrv := hb'.loadVar (P := Tryd.prog) 64 _ Tryd.underlying64 rfl hi
  have HRV := Lib.hid hrv
  have HFF : Hid (Fr Non w w') := Lib.hid (HFR.out.new hf' (fun i h => by have h1 : i = B + 1 := h; have := HB.out; omega))
  clear hrv hb' hf' hq hyl hy1 hi HR HFR HF HL
  repeat (first | go_skip | go_step)
  refine bodyPost_ret (v := .agg ys.toArray) (by have h := HRV.out; simp [results, Tryd.results40, asAddr, h]) rfl ⟨by rw [HYS.out], HFF.out⟩
end Go.Proofs.YthfpkdbhihcniaaDoor
