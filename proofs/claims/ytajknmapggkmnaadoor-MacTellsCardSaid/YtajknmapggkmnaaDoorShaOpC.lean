/- package sha: laid -/
import Derived.Test.YtajknmapggkmnaaDoorShaOpB
namespace Go.Proofs.YtajknmapggkmnaaDoor
open Go.ChangeShapes Go.WideShapes Go.ChangeAt Go.RowKit

set_option maxRecDepth 100000 in
theorem run_index8 (a b c d e f g h j : Nat) (hj : j < 8) (w : World) : (Instr.index 55 (.agg #[.int .u32 a, .int .u32 b, .int .u32 c, .int .u32 d, .int .u32 e, .int .u32 f, .int .u32 g, .int .u32 h]) (.int .i64 (j : Int))).run Tryd.prog w = .ok (.int .u32 (([a, b, c, d, e, f, g, h][j]! : Nat) : Int)) w := by
  rcases (show j = 0 ∨ j = 1 ∨ j = 2 ∨ j = 3 ∨ j = 4 ∨ j = 5 ∨ j = 6 ∨ j = 7 by omega) with rfl | rfl | rfl | rfl | rfl | rfl | rfl | rfl <;> kernel_rfl

set_option maxRecDepth 100000 in
set_option maxHeartbeats 1000000 in
theorem laid_any (s : St8) (w : World) (hs : s.ok) :
    Calls Tryd.prog 32 #[.agg #[.int .u32 s.a, .int .u32 s.b, .int .u32 s.c, .int .u32 s.d, .int .u32 s.e, .int .u32 s.f, .int .u32 s.g, .int .u32 s.h]] w fun e w' => e = .returned (.agg (bs s.bytes).toArray) ∧ Fr Non w w' := by
  obtain ⟨a, b, c, d, e, f, g, h⟩ := s
  have HOK := Lib.hid hs
  clear hs
  go_enter Tryd.func32, Tryd.ntmps32
  go_upto_region 1 with (fail)
  have ha : SB (w.alloc (.cells #[.int .u32 a, .int .u32 b, .int .u32 c, .int .u32 d, .int .u32 e, .int .u32 f, .int .u32 g, .int .u32 h] 55)) w.heap.size ⟨a, b, c, d, e, f, g, h⟩ := heap_alloc_new w _
  have hf1 := Fr.alloc w (.cells #[.int .u32 a, .int .u32 b, .int .u32 c, .int .u32 d, .int .u32 e, .int .u32 f, .int .u32 g, .int .u32 h] 55)
  have hs1 : (w.alloc (.cells #[.int .u32 a, .int .u32 b, .int .u32 c, .int .u32 d, .int .u32 e, .int .u32 f, .int .u32 g, .int .u32 h] 55)).heap.size = w.heap.size + 1 := by simp
  generalize w.alloc (.cells #[.int .u32 a, .int .u32 b, .int .u32 c, .int .u32 d, .int .u32 e, .int .u32 f, .int .u32 g, .int .u32 h] 55) = w1 at ha hf1 hs1 ⊢
  have hd0 : DB (w1.alloc (.cells #[.int .u8 0, .int .u8 0, .int .u8 0, .int .u8 0, .int .u8 0, .int .u8 0, .int .u8 0, .int .u8 0, .int .u8 0, .int .u8 0, .int .u8 0, .int .u8 0, .int .u8 0, .int .u8 0, .int .u8 0, .int .u8 0, .int .u8 0, .int .u8 0, .int .u8 0, .int .u8 0, .int .u8 0, .int .u8 0, .int .u8 0, .int .u8 0, .int .u8 0, .int .u8 0, .int .u8 0, .int .u8 0, .int .u8 0, .int .u8 0, .int .u8 0, .int .u8 0] 25)) w1.heap.size zero32 := DB.new w1
  have hf2 := Fr.alloc w1 (.cells #[.int .u8 0, .int .u8 0, .int .u8 0, .int .u8 0, .int .u8 0, .int .u8 0, .int .u8 0, .int .u8 0, .int .u8 0, .int .u8 0, .int .u8 0, .int .u8 0, .int .u8 0, .int .u8 0, .int .u8 0, .int .u8 0, .int .u8 0, .int .u8 0, .int .u8 0, .int .u8 0, .int .u8 0, .int .u8 0, .int .u8 0, .int .u8 0, .int .u8 0, .int .u8 0, .int .u8 0, .int .u8 0, .int .u8 0, .int .u8 0, .int .u8 0, .int .u8 0] 25)
  have hs2 : (w1.alloc (.cells #[.int .u8 0, .int .u8 0, .int .u8 0, .int .u8 0, .int .u8 0, .int .u8 0, .int .u8 0, .int .u8 0, .int .u8 0, .int .u8 0, .int .u8 0, .int .u8 0, .int .u8 0, .int .u8 0, .int .u8 0, .int .u8 0, .int .u8 0, .int .u8 0, .int .u8 0, .int .u8 0, .int .u8 0, .int .u8 0, .int .u8 0, .int .u8 0, .int .u8 0, .int .u8 0, .int .u8 0, .int .u8 0, .int .u8 0, .int .u8 0, .int .u8 0, .int .u8 0] 25)).heap.size = w1.heap.size + 1 := by simp
  generalize w1.alloc (.cells #[.int .u8 0, .int .u8 0, .int .u8 0, .int .u8 0, .int .u8 0, .int .u8 0, .int .u8 0, .int .u8 0, .int .u8 0, .int .u8 0, .int .u8 0, .int .u8 0, .int .u8 0, .int .u8 0, .int .u8 0, .int .u8 0, .int .u8 0, .int .u8 0, .int .u8 0, .int .u8 0, .int .u8 0, .int .u8 0, .int .u8 0, .int .u8 0, .int .u8 0, .int .u8 0, .int .u8 0, .int .u8 0, .int .u8 0, .int .u8 0, .int .u8 0, .int .u8 0] 25) = w2 at hd0 hf2 hs2 ⊢
  rw [hs1] at hd0 hs2
  have ha2 := ha.frame hf2 (fun h => h)
  have HA := Lib.hid ha2
  have HD := Lib.hid hd0
  have HF := Lib.hid (hf1.non hf2)
  have HS := Lib.hid hs2
  clear ha hd0 hf1 hf2 hs1 hs2
  clear ha2
  go_upto_region 2 with (fail)
  rw [HS.out]
  have hd0 : DB (w2.alloc (.cells #[.int .u8 0, .int .u8 0, .int .u8 0, .int .u8 0, .int .u8 0, .int .u8 0, .int .u8 0, .int .u8 0, .int .u8 0, .int .u8 0, .int .u8 0, .int .u8 0, .int .u8 0, .int .u8 0, .int .u8 0, .int .u8 0, .int .u8 0, .int .u8 0, .int .u8 0, .int .u8 0, .int .u8 0, .int .u8 0, .int .u8 0, .int .u8 0, .int .u8 0, .int .u8 0, .int .u8 0, .int .u8 0, .int .u8 0, .int .u8 0, .int .u8 0, .int .u8 0] 25)) w2.heap.size (digL ⟨a, b, c, d, e, f, g, h⟩ 0) := DB.new w2
  have hf2 := Fr.alloc w2 (.cells #[.int .u8 0, .int .u8 0, .int .u8 0, .int .u8 0, .int .u8 0, .int .u8 0, .int .u8 0, .int .u8 0, .int .u8 0, .int .u8 0, .int .u8 0, .int .u8 0, .int .u8 0, .int .u8 0, .int .u8 0, .int .u8 0, .int .u8 0, .int .u8 0, .int .u8 0, .int .u8 0, .int .u8 0, .int .u8 0, .int .u8 0, .int .u8 0, .int .u8 0, .int .u8 0, .int .u8 0, .int .u8 0, .int .u8 0, .int .u8 0, .int .u8 0, .int .u8 0] 25)
  generalize w2.alloc (.cells #[.int .u8 0, .int .u8 0, .int .u8 0, .int .u8 0, .int .u8 0, .int .u8 0, .int .u8 0, .int .u8 0, .int .u8 0, .int .u8 0, .int .u8 0, .int .u8 0, .int .u8 0, .int .u8 0, .int .u8 0, .int .u8 0, .int .u8 0, .int .u8 0, .int .u8 0, .int .u8 0, .int .u8 0, .int .u8 0, .int .u8 0, .int .u8 0, .int .u8 0, .int .u8 0, .int .u8 0, .int .u8 0, .int .u8 0, .int .u8 0, .int .u8 0, .int .u8 0] 25) = w3 at hd0 hf2 ⊢
  rw [HS.out] at hd0
  obtain ⟨R, hR⟩ : ∃ R, R = w.heap.size + 1 := ⟨_, rfl⟩
  obtain ⟨D, hD⟩ : ∃ D, D = w.heap.size + 1 + 1 := ⟨_, rfl⟩
  rw [← hD] at hd0 ⊢
  rw [← hR]
  have HRD := Lib.hid (And.intro hR hD)
  have HD0 := Lib.hid hd0
  have HZ : Hid (DB w3 R zero32) := Lib.hid (by rw [hR]; exact HD.out.frame hf2 (fun h => h))
  have HF3 := Lib.hid (HF.out.non hf2)
  have ha3 := HA.out.frame hf2 (fun h => h)
  obtain ⟨c0, c1, c2, c3, c4, c5, c6, c7⟩ := ha3.cells
  simp only at c0 c1 c2 c3 c4 c5 c6 c7
  clear hR hD hd0 hf2 HA ha3
  go_wp2_with fail
  clear c0 c1 c2 c3 c4 c5 c6 c7
  go_loopw [7] (fun i wq => ∃ j : Nat, j ≤ 8 ∧ i = .int .i64 j ∧ DB wq D (digL ⟨a, b, c, d, e, f, g, h⟩ j) ∧ Fr (One D) w3 wq) (fun i _ => 8 - (intOf i).toNat)
  case atStart => exact ⟨0, by omega, rfl, HD0.out, Fr.refl _ _⟩
  case round =>
    obtain ⟨j, hj, rfl, hdb, hfr⟩ := hrel
    have HFQ := Lib.hid hfr
    have HDB := Lib.hid hdb
    clear hfr hdb
    by_cases hlt : j < 8
    · have bx : (St8.list ⟨a, b, c, d, e, f, g, h⟩)[j]! < 4294967296 := list_lt HOK.out j
      have hix := run_index8 a b c d e f g h j hlt
      have hdl := digL_length ⟨a, b, c, d, e, f, g, h⟩ j hj
      obtain ⟨d0, f0⟩ := HDB.out.at (4 * j) (by omega)
      obtain ⟨d1, f1⟩ := HDB.out.at (4 * j + 1) (by omega)
      obtain ⟨d2, f2⟩ := HDB.out.at (4 * j + 2) (by omega)
      obtain ⟨d3, f3⟩ := HDB.out.at (4 * j + 3) (by omega)
      have HDS := Lib.hid (digL_set ⟨a, b, c, d, e, f, g, h⟩ j hlt)
      have hix2 : ∀ w, (Instr.index 55 (.agg #[.int .u32 a, .int .u32 b, .int .u32 c, .int .u32 d, .int .u32 e, .int .u32 f, .int .u32 g, .int .u32 h]) (.int .i64 (j : Int))).run Tryd.prog w = .ok (.int .u32 (((St8.list ⟨a, b, c, d, e, f, g, h⟩)[j]! : Nat) : Int)) w := hix
      clear hix
      generalize (St8.list ⟨a, b, c, d, e, f, g, h⟩)[j]! = x at hix2 bx HDS
      generalize (digL ⟨a, b, c, d, e, f, g, h⟩ j)[4 * j]! = q0 at d0
      generalize (digL ⟨a, b, c, d, e, f, g, h⟩ j)[4 * j + 1]! = q1 at d1
      generalize (digL ⟨a, b, c, d, e, f, g, h⟩ j)[4 * j + 2]! = q2 at d2
      generalize (digL ⟨a, b, c, d, e, f, g, h⟩ j)[4 * j + 3]! = q3 at d3
      have z0 : (0 : Int) ≤ (j : Int) := by omega
      have z1 : (j : Int) < 8 := by omega
      clear hdl
      go_wp2_with fail
      clear d0 d1 d2 d3 f0 f1 f2 f3
      go_roundw
      case rel =>
        have e0 : (x : Int) / 16777216 = ((UInt8.ofNat (x / 16777216 % 256)).toNat : Int) := by rw [ofNat_toNat _ (Nat.mod_lt _ (by omega))]; omega
        have e1 : (x : Int) / 65536 % 256 = ((UInt8.ofNat (x / 65536 % 256)).toNat : Int) := by rw [ofNat_toNat _ (Nat.mod_lt _ (by omega))]; omega
        have e2 : (x : Int) / 256 % 256 = ((UInt8.ofNat (x / 256 % 256)).toNat : Int) := by rw [ofNat_toNat _ (Nat.mod_lt _ (by omega))]; omega
        have e3 : (x : Int) % 256 = ((UInt8.ofNat (x % 256)).toNat : Int) := by rw [ofNat_toNat _ (Nat.mod_lt _ (by omega))]; omega
        rw [e0, e1, e2, e3]
        refine ⟨j + 1, by omega, by go_num, ?_, ?_⟩
        · rw [← HDS.out]
          exact (((HDB.out.set (4 * j) _).set (4 * j + 1) _).set (4 * j + 2) _).set (4 * j + 3) _
        · have t : ∀ {a b : World} (_ : Fr (One D) a b) (k : Nat) (u : Value), Fr (One D) a (b.setCell ⟨D, k, none⟩ u) := fun h k u => h.trans (Fr.setCell _ ⟨D, k, none⟩ u) (fun _ h => h) (fun _ h => .inl h)
          exact t (t (t (t HFQ.out _ _) _ _) _ _) _ _
      case measure => simp [intOf]; omega
    · have e8 : j = 8 := by omega
      have hdb := HDB.out
      rw [e8, digL_8] at hdb
      have hz : DB wr R zero32 := HZ.out.frame HFQ.out (fun h => by have h1 : R = D := h; have := HRD.out; omega)
      have HDB8 := Lib.hid hdb
      have HZ8 := Lib.hid hz
      have hge9 : decide ((j : Int) < 8) = false := by simp; omega
      have hbl : (bs (St8.bytes ⟨a, b, c, d, e, f, g, h⟩)).length = 32 := by simp [bs_length, St8.bytes, beBytes_length]
      have hone := bs_one (St8.bytes ⟨a, b, c, d, e, f, g, h⟩)
      have hrng := HDB8.out.range
      obtain ⟨ys, hys⟩ : ∃ ys, ys = bs (St8.bytes ⟨a, b, c, d, e, f, g, h⟩) := ⟨_, rfl⟩
      rw [← hys] at hbl hone hrng
      have HYS := Lib.hid hys
      clear hys
      have hinfo : (Tryd.prog.info? 25).map (·.size) = some ys.length := by rw [hbl]; kernel_rfl
      have hth : wr.there R 0 ys.length := by rw [hbl]; exact HZ8.out.there
      have hrv := run_loadVar_mid (P := Tryd.prog) (wr.setCells R 0 ys.toArray.toList) R 0 25 ys _ (by have := World.rangeAt_setCells_same wr R 0 ys hth; simpa using this) Tryd.underlying25 rfl hinfo
      have hfs : Fr (One R) wr (wr.setCells R 0 ys.toArray.toList) := Fr.setCells _ _ _ _
      have HRV := Lib.hid hrv
      have HFS := Lib.hid hfs
      have HTH := Lib.hid hth
      have HI := Lib.hid hinfo
      have HON := Lib.hid hone
      have HRN := Lib.hid hrng
      clear hrv hfs hth hinfo hone hrng hbl hdb hz e8
      go_upto_region 7 with (fail)
      refine wp_region_lit ?_
      refine wpList_load_mid rfl _ _ rfl D 0 rfl ys _ HRN.out Tryd.underlying25 rfl HI.out ?_
      refine wpList_store_mid rfl _ _ _ rfl R 0 ys.toArray rfl rfl (by simpa using HTH.out) (by simpa using HI.out) (by rw [Array.all_eq_true_iff_forall_mem]; intro v hv; exact HON.out v (by simpa using hv)) ?_
      generalize wr.setCells R 0 ys.toArray.toList = w9 at HRV HFS ⊢
      go_wp2
      refine bodyPost_ret (v := .agg ys.toArray) (by have h := HRV.out; simp [results, Tryd.results32, asAddr, Act.put, h]) rfl ⟨by rw [HYS.out], ?_⟩
      have hx := HRD.out
      exact (HF3.out.new HFQ.out (fun i h => by have h1 : i = D := h; omega)).new HFS.out (fun i h => by have h1 : i = R := h; omega)
end Go.Proofs.YtajknmapggkmnaaDoor
