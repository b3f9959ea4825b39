/- package sha: fill, Sum of a state, Sum -/
import Derived.Test.YtajknmapggkmnaaDoorShaOpE
namespace Go.Proofs.YtajknmapggkmnaaDoor
open Go.ChangeShapes Go.WideShapes Go.ChangeAt Go.RowKit

/-- the block that is filled, as far as k bytes of the number -/
def padL (z N k : Nat) : List UInt8 := (128 :: List.replicate z 0 ++ beTop N k) ++ List.replicate (71 - z - k) 0
theorem padL_length (z N k : Nat) (h : z < 64) (hk : k ≤ 8) : (padL z N k).length = 72 := by
  unfold padL; simp [beTop_length]; omega
theorem padL_set (z N k : Nat) (h : z < 64) (hk : k < 8) : (padL z N k).set (1 + z + k) (UInt8.ofNat (N / 2 ^ (8 * (7 - k)) % 256)) = padL z N (k + 1) := by
  unfold padL
  have hl : (128 :: List.replicate z (0 : UInt8) ++ beTop N k).length = 1 + z + k := by simp [beTop_length]; omega
  rw [List.set_append_right _ _ (by omega), hl, Nat.sub_self, show 71 - z - k = (71 - z - (k + 1)) + 1 by omega, List.replicate_succ, List.set_cons_zero, beTop]
  simp
theorem padL_8 (z n : Nat) (hz : z = shaZeros n) : shaPad n = (padL z (n * 8) 8).take (1 + z + 8) := by
  have hl : (128 :: List.replicate z (0 : UInt8) ++ beTop (n * 8) 8).length = 1 + z + 8 := by simp [beTop_length]; omega
  unfold padL
  rw [List.take_append_of_le_length (by omega), List.take_of_length_le (by omega), beTop_8, hz]
  rfl
set_option maxRecDepth 100000 in
set_option maxHeartbeats 1000000 in
theorem fill_any (B : Nat) (l : List UInt8) (w : World) (hst : StL w B l) (hl : l.length ≤ 1000000000000000)
    (hK : KAt w 2) (hS : StAt w 0) (hB1 : B ≠ 2) (hB2 : B ≠ 0) :
    Calls Tryd.prog 31 #[.pointer (some ⟨B, 0, none⟩)] w fun e w' => e = .returned (.tuple #[]) ∧ StL w' B (l ++ shaPad l.length) ∧ Fr (One B) w w' := by
  obtain ⟨s, blk, h1, h2, h3, h4, h5⟩ := id hst
  obtain ⟨c, -⟩ := h5.len h2
  have HST := Lib.hid hst
  have HK := Lib.hid hK
  have HS := Lib.hid hS
  have HB := Lib.hid (And.intro hB1 hB2)
  have hbl : B < w.heap.size := hst.lt
  have hKs : 2 < w.heap.size := World.block_lt_of_cell? _ _ (hK 0 (by omega))
  have hSs : 0 < w.heap.size := World.block_lt_of_cell? _ _ (hS 0 (by omega))
  have HGS := Lib.hid (And.intro hKs hSs)
  clear h1 h2 h3 h4 h5 hst hK hS hB1 hB2 hKs hSs
  have hr := Blk.new w 68 (bs (List.replicate 72 0))
  have hf := Fr.alloc w (.cells (bs (List.replicate 72 0)).toArray 68)
  have hzv : ∀ w, (zeroValue 68).run Tryd.prog w = .ok (.agg (bs (List.replicate 72 0)).toArray) w := fun _ => by kernel_rfl
  obtain ⟨Z, hZ⟩ : ∃ Z, Z = List.replicate 72 (0 : UInt8) := ⟨_, rfl⟩
  rw [← hZ] at hr hf hzv
  have hZl : Z.length = 72 := by rw [hZ]; simp
  have HZ := Lib.hid (And.intro hZl hZ)
  clear hZl hZ
  go_enter Tryd.func31, Tryd.ntmps31
  go_upto_region 1 with (fail)
  generalize w.alloc (.cells (bs Z).toArray 68) = w1 at hr hf ⊢
  obtain ⟨R, hR⟩ : ∃ R, R = w.heap.size := ⟨_, rfl⟩
  rw [← hR] at hr hbl ⊢
  have hc1 := hf.cell c (fun h => h)
  obtain ⟨u0, d0, f0⟩ := hr.has 0 (by rw [bs_length, HZ.out.1]; omega)
  have HR := Lib.hid hr
  have HF := Lib.hid hf
  have HRR := Lib.hid hR
  have hN : (0 : Int) ≤ (l.length : Int) := by omega
  have hne : ¬ B = R := by omega
  have hne2 : ¬ R = B := by omega
  clear hr hf hR c hzv
  go_wp2
  obtain ⟨z, hz⟩ : ∃ z, z = shaZeros l.length := ⟨_, rfl⟩
  have hz64 : z < 64 := by rw [hz]; unfold shaZeros; omega
  have ez : (119 - (l.length : Int) % 64) % 64 = (z : Int) := by rw [hz]; unfold shaZeros; omega
  have eN : (l.length : Int) * 8 = ((l.length * 8 : Nat) : Int) := by omega
  rw [ez, eN]
  have HZZ := Lib.hid hz
  clear hz ez eN
  have hb0 := HR.out.set 0 (.int .u8 128)
  have hf0 := Fr.setCell w1 ⟨R, 0, none⟩ (.int .u8 128)
  generalize w1.setCell ⟨R, 0, none⟩ (.int .u8 128) = w2 at hb0 hf0 ⊢
  have hb1 : Blk w2 R 68 (bs (padL z (l.length * 8) 0)) := by
    have e : (bs Z).set 0 (.int .u8 128) = bs (padL z (l.length * 8) 0) := by
      have e2 : padL z (l.length * 8) 0 = 128 :: List.replicate 71 0 := by
        unfold padL
        simp only [beTop, List.append_nil, Nat.sub_zero, List.cons_append, List.replicate_append_replicate]
        rw [show z + (71 - z) = 71 by omega]
      rw [e2, HZ.out.2]
      rfl
    rw [e] at hb0
    exact hb0
  have hNb : l.length * 8 ≤ 8000000000000000 := by omega
  obtain ⟨N, hNN⟩ : ∃ N, N = l.length * 8 := ⟨_, rfl⟩
  rw [← hNN] at hb1 hNb ⊢
  have HB1 := Lib.hid hb1
  have HF2 : Hid (Fr (One R) w1 w2) := Lib.hid hf0
  have HNN := Lib.hid hNN
  clear hb0 hf0 hb1 hNN hc1 d0 f0
  go_loopw [20] (fun i wr => ∃ k : Nat, k ≤ 8 ∧ i = .int .i64 k ∧ Blk wr R 68 (bs (padL z N k)) ∧ Fr (One R) w1 wr) (fun i _ => 8 - (intOf i).toNat)
  case atStart => exact ⟨0, by omega, rfl, HB1.out, HF2.out⟩
  case round =>
    obtain ⟨k, hk, rfl, hb, hfr⟩ := hrel
    have HBk := Lib.hid hb
    have HFR := Lib.hid hfr
    clear hb hfr
    by_cases hlt : k < 8
    · obtain ⟨u0, d0, f0⟩ := HBk.out.has (1 + z + k) (by rw [bs_length, padL_length _ _ _ hz64 hk]; omega)
      have hsh : (8 * (7 - (k : Int))).toNat = 8 * (7 - k) := by omega
      go_wp2
      go_roundw
      case rel =>
        have e : (N : Int) / 2 ^ (8 * (7 - k)) % 256 = ((UInt8.ofNat (N / 2 ^ (8 * (7 - k)) % 256)).toNat : Int) := by
          rw [ofNat_toNat _ (Nat.mod_lt _ (by omega)), Int.natCast_emod, Int.natCast_ediv, Int.natCast_pow]; rfl
        rw [e]
        have hs := HBk.out.set (1 + z + k) (.int .u8 ((UInt8.ofNat (N / 2 ^ (8 * (7 - k)) % 256)).toNat : Int))
        rw [bs_set, padL_set _ _ _ hz64 hlt] at hs
        exact ⟨k + 1, by omega, by go_num, hs, HFR.out.trans (Fr.setCell wr _ _) (fun _ h => h) (fun _ h => .inl h)⟩
      case measure => simp [intOf]; omega
    · obtain rfl : k = 8 := by omega
      have hsl := run_arrHi (P := Tryd.prog) Tryd.underlying68 (by kernel_rfl) R 0 .i64 (1 + (z : Int) + 8) (1 + z + 8) (by omega) (by omega)
      have hpl : (bs (shaPad l.length)).length = 1 + z + 8 := by rw [bs_length, shaPad_length, HZZ.out]; omega
      have hrow : Row wr (.slice (some ⟨R, 0, none⟩) (1 + z + 8) 72) (bs (shaPad l.length)) := by
        have h := HBk.out.row 0 72 (bs (shaPad l.length)) (by omega) (by unfold maxLen; omega) (fun j v hj => by
          have hjl := (List.getElem?_eq_some_iff.1 hj).1
          rw [Nat.zero_add]
          rw [padL_8 z l.length HZZ.out, ← HNN.out] at hj
          rw [hpl] at hjl
          simp only [bs, List.map_take] at hj ⊢
          rwa [List.getElem?_take_of_lt hjl] at hj)
        rwa [hpl] at h
      have HROW := Lib.hid hrow
      have hfw : Fr (One R) w wr := HF.out.non HFR.out
      have hstr : StL wr B l := HST.out.frame hfw hne
      have hKr : KAt wr 2 := HK.out.frame hfw (fun h => by have h1 : 2 = R := h; have := HGS.out; have := HRR.out; omega)
      have hSr : StAt wr 0 := HS.out.frame hfw (fun h => by have h1 : 0 = R := h; have := HGS.out; have := HRR.out; omega)
      have hpm : (shaPad l.length).length ≤ 140737488351232 := by rw [shaPad_length]; unfold shaZeros; omega
      have hofr : Off (One B) (.slice (some ⟨R, 0, none⟩) (1 + z + 8) 72) := fun b off n c e h => by
        injection e with e1
        injection e1 with e1
        injection e1 with e1
        have h1 : b = B := h
        omega
      have HX := Lib.hid (And.intro hstr (And.intro hKr (And.intro hSr (And.intro hpm hofr))))
      have HFW := Lib.hid hfw
      have hge : decide (((8 : Nat) : Int) < 8) = false := by simp
      clear hpl hrow hfw hstr hKr hSr hpm hofr HBk HFR hk hlt
      go_wp2_with (go_at_call 25; refine (write_any B l (shaPad l.length) _ _ HX.out.1 HROW.out (fun _ => HX.out.2.2.2.2) hl HX.out.2.2.2.1 HX.out.2.1 HX.out.2.2.1 HB.out.1 HB.out.2).mono ?_; rintro e w9 ⟨rfl, h9, hf9⟩)
      go_end0
      have hn : Fr Non w wr := (Fr.refl Non w).new HFW.out (fun i h => by have h1 : i = R := h; have := HRR.out; omega)
      exact ⟨rfl, h9, hn.non hf9⟩

set_option maxRecDepth 100000 in
set_option maxHeartbeats 1000000 in
theorem ssum_any (B : Nat) (l : List UInt8) (w : World) (hst : StL w B l) (hl : l.length ≤ 1000000000000000)
    (hK : KAt w 2) (hS : StAt w 0) :
    Calls Tryd.prog 27 #[.pointer (some ⟨B, 0, none⟩)] w fun e w' => e = .returned (.agg (bs (sha l)).toArray) ∧ Fr Non w w' := by
  have HST := Lib.hid hst
  have hbl : B < w.heap.size := hst.lt
  have HK := Lib.hid hK
  have HS := Lib.hid hS
  have hKs : 2 < w.heap.size := World.block_lt_of_cell? _ _ (hK 0 (by omega))
  have hSs : 0 < w.heap.size := World.block_lt_of_cell? _ _ (hS 0 (by omega))
  have HGS := Lib.hid (And.intro hKs hSs)
  have hzv : ∀ w, (zeroValue 57).run Tryd.prog w = .ok (.agg (us [0, 0, 0, 0, 0, 0, 0, 0] ++ (bs (List.replicate 64 0) ++ [Value.int .i64 ((0 : Nat) : Int)])).toArray) w := fun _ => by kernel_rfl
  obtain ⟨Z, hZ⟩ : ∃ Z, Z = us [0, 0, 0, 0, 0, 0, 0, 0] ++ (bs (List.replicate 64 0) ++ [Value.int .i64 ((0 : Nat) : Int)]) := ⟨_, rfl⟩
  rw [← hZ] at hzv
  have HZ := Lib.hid hZ
  clear hst hK hS hKs hSs hZ
  go_enter Tryd.func27, Tryd.ntmps27
  go_upto_region 3 with (fail)
  have hd0 : DB (w.alloc (.cells #[.int .u8 0, .int .u8 0, .int .u8 0, .int .u8 0, .int .u8 0, .int .u8 0, .int .u8 0, .int .u8 0, .int .u8 0, .int .u8 0, .int .u8 0, .int .u8 0, .int .u8 0, .int .u8 0, .int .u8 0, .int .u8 0, .int .u8 0, .int .u8 0, .int .u8 0, .int .u8 0, .int .u8 0, .int .u8 0, .int .u8 0, .int .u8 0, .int .u8 0, .int .u8 0, .int .u8 0, .int .u8 0, .int .u8 0, .int .u8 0, .int .u8 0, .int .u8 0] 25)) w.heap.size zero32 := DB.new w
  have hf1 := Fr.alloc w (.cells #[.int .u8 0, .int .u8 0, .int .u8 0, .int .u8 0, .int .u8 0, .int .u8 0, .int .u8 0, .int .u8 0, .int .u8 0, .int .u8 0, .int .u8 0, .int .u8 0, .int .u8 0, .int .u8 0, .int .u8 0, .int .u8 0, .int .u8 0, .int .u8 0, .int .u8 0, .int .u8 0, .int .u8 0, .int .u8 0, .int .u8 0, .int .u8 0, .int .u8 0, .int .u8 0, .int .u8 0, .int .u8 0, .int .u8 0, .int .u8 0, .int .u8 0, .int .u8 0] 25)
  have hs1 : (w.alloc (.cells #[.int .u8 0, .int .u8 0, .int .u8 0, .int .u8 0, .int .u8 0, .int .u8 0, .int .u8 0, .int .u8 0, .int .u8 0, .int .u8 0, .int .u8 0, .int .u8 0, .int .u8 0, .int .u8 0, .int .u8 0, .int .u8 0, .int .u8 0, .int .u8 0, .int .u8 0, .int .u8 0, .int .u8 0, .int .u8 0, .int .u8 0, .int .u8 0, .int .u8 0, .int .u8 0, .int .u8 0, .int .u8 0, .int .u8 0, .int .u8 0, .int .u8 0, .int .u8 0] 25)).heap.size = w.heap.size + 1 := by simp
  generalize w.alloc (.cells #[.int .u8 0, .int .u8 0, .int .u8 0, .int .u8 0, .int .u8 0, .int .u8 0, .int .u8 0, .int .u8 0, .int .u8 0, .int .u8 0, .int .u8 0, .int .u8 0, .int .u8 0, .int .u8 0, .int .u8 0, .int .u8 0, .int .u8 0, .int .u8 0, .int .u8 0, .int .u8 0, .int .u8 0, .int .u8 0, .int .u8 0, .int .u8 0, .int .u8 0, .int .u8 0, .int .u8 0, .int .u8 0, .int .u8 0, .int .u8 0, .int .u8 0, .int .u8 0] 25) = w1 at hd0 hf1 hs1 ⊢
  have he0 := Blk.new w1 57 Z
  have hf2 := Fr.alloc w1 (.cells Z.toArray 57)
  generalize w1.alloc (.cells Z.toArray 57) = w2 at he0 hf2 ⊢
  obtain ⟨R, hR⟩ : ∃ R, R = w.heap.size := ⟨_, rfl⟩
  obtain ⟨E, hE⟩ : ∃ E, E = w.heap.size + 1 := ⟨_, rfl⟩
  rw [hs1, ← hE] at he0
  rw [← hE, ← hR]
  rw [← hR] at hd0
  have HRE := Lib.hid (And.intro hR hE)
  have HD := Lib.hid (hd0.frame hf2 (fun h => h))
  have HF2 := Lib.hid (hf1.non hf2)
  have HE0 := Lib.hid he0
  have hi43 : (Tryd.prog.info? 57).map (·.size) = some 73 := by kernel_rfl
  have HI := Lib.hid hi43
  clear hd0 hf1 hf2 hs1 hR hE he0 hi43 hzv
  obtain ⟨s, blk, q1, q2, q3, q4, q5⟩ := HST.out.frame HF2.out (fun h => h)
  have hlen : (us s.list ++ (bs blk ++ [Value.int .i64 (l.length : Int)])).length = 73 := by simp [us_length, bs_length, St8.list, q2]
  have hone : ∀ v ∈ us s.list ++ (bs blk ++ [Value.int .i64 (l.length : Int)]), v.oneCell' = true := by
    intro v hv
    rcases List.mem_append.1 hv with hv | hv
    · exact us_one _ v hv
    · rcases List.mem_append.1 hv with hv | hv
      · exact bs_one _ v hv
      · rw [List.mem_singleton] at hv; subst hv; rfl
  have hrng : w2.rangeAt B 0 (us s.list ++ (bs blk ++ [Value.int .i64 (l.length : Int)])) := Blk.range q5 0 _ (fun j v hv => by simpa using hv)
  have hthE := HE0.out.there 0 73 (by rw [HZ.out]; simp [us_length, bs_length])
  have hstE : ∀ w4 : World, Blk w4 E 57 (us s.list ++ (bs blk ++ [Value.int .i64 (l.length : Int)])) → StL w4 E l := fun w4 h => ⟨s, blk, q1, q2, q3, q4, h⟩
  have hblE := Blk.setCells (us s.list ++ (bs blk ++ [Value.int .i64 (l.length : Int)])) w2 Z 0 HE0.out (by rw [hlen, HZ.out]; simp [us_length, bs_length])
  have hsp : splice Z 0 (us s.list ++ (bs blk ++ [Value.int .i64 (l.length : Int)])) = us s.list ++ (bs blk ++ [Value.int .i64 (l.length : Int)]) := by
    simp only [splice, List.take_zero, List.nil_append, Nat.zero_add]
    rw [List.drop_of_length_le (by rw [hlen, HZ.out]; simp [us_length, bs_length]), List.append_nil]
  rw [hsp] at hblE
  have hst3 := hstE _ hblE
  have hfs := Fr.setCells' E (us s.list ++ (bs blk ++ [Value.int .i64 (l.length : Int)])) w2 0
  generalize us s.list ++ (bs blk ++ [Value.int .i64 (l.length : Int)]) = C at hlen hone hrng hst3 hfs
  have HC := Lib.hid (And.intro hlen (And.intro hone (And.intro hrng hthE)))
  have HST3 := Lib.hid (And.intro hst3 hfs)
  have hiC : (Tryd.prog.info? 57).map (·.size) = some C.toArray.size := by rw [HI.out, List.size_toArray, hlen]
  have hiC2 : (Tryd.prog.info? 57).map (·.size) = some C.length := by rw [HI.out, hlen]
  have hthC : w2.there E 0 C.toArray.size := by rw [List.size_toArray, hlen]; exact hthE
  have HIC := Lib.hid (And.intro hiC (And.intro hiC2 hthC))
  clear q1 q2 q3 q4 q5 hlen hone hrng hthE hstE hblE hsp hst3 hfs hiC hiC2 hthC
  refine wp_region_lit ?_
  go_wp2_with (first | (refine wpList_load_mid rfl 57 (.tmp 7) rfl B 0 rfl C _ HC.out.2.2.1 Tryd.underlying57 rfl HIC.out.2.1 ?_) | (refine wpList_store_mid rfl 57 (.tmp 3) (.tmp 8) rfl E 0 C.toArray rfl rfl HIC.out.2.2 HIC.out.1 (all_one HC.out.2.1) ?_))
  have hst3 := HST3.out.1
  have hf3 := HST3.out.2
  generalize w2.setCells E 0 C = w3 at hst3 hf3 ⊢
  have HF3 : Hid (Fr Non w w3) := Lib.hid (HF2.out.new hf3 (fun i h => by have h1 : i = E := h; have := HRE.out; omega))
  have HD3 : Hid (DB w3 R zero32) := Lib.hid (HD.out.frame hf3 (fun h => by have h1 : R = E := h; have := HRE.out; omega))
  clear hf3
  have hne1 : ¬ E = R := by have := HRE.out; omega
  have hKE : E ≠ 2 := by have := HRE.out; have := HGS.out; omega
  have hSE : E ≠ 0 := by have := HRE.out; have := HGS.out; omega
  have HTB := Lib.hid (And.intro (HK.out.frame HF3.out (fun h => h)) (And.intro (HS.out.frame HF3.out (fun h => h)) (And.intro hKE hSE)))
  have HST4 := Lib.hid hst3
  clear hst3 hKE hSE
  refine (fill_any E l _ HST4.out hl HTB.out.1 HTB.out.2.1 HTB.out.2.2.1 HTB.out.2.2.2).mono ?_
  rintro e w5 ⟨rfl, hst5, hf5⟩
  obtain ⟨s5, blk5, q1, q2, q3, q4, q5⟩ := hst5
  have hpn : l ++ shaPad l.length ≠ [] := by simp [shaPad]
  have hs5 : s5 = shaEnd l := by rw [q4 hpn, List.length_append]; rfl
  have hby : s5.bytes = sha l := by rw [hs5]; rfl
  have hbl5 : (bs s5.bytes).length = 32 := by simp [bs_length, St8.bytes, beBytes_length]
  obtain ⟨c0, c1, c2, c3, c4, c5, c6, c7⟩ := q5.cells
  have hd5 : DB w5 R zero32 := HD3.out.frame hf5 (fun h => hne1 h.symm)
  have HQ1 := Lib.hid q1
  have HBY := Lib.hid hby
  have HD5 := Lib.hid hd5
  have HF5 := Lib.hid hf5
  have HBL := Lib.hid hbl5
  clear q1 q2 q3 q4 q5 hpn hs5 hby hd5 hf5 hbl5
  go_wp2_with fail
  refine (laid_any s5 _ HQ1.out).mono ?_
  rintro e w6 ⟨rfl, hf6⟩
  have hd6 := HD5.out.frame hf6 (fun h => h)
  have hone := bs_one s5.bytes
  have hb32 := HBL.out
  have hby := HBY.out
  generalize hys : bs s5.bytes = ys at hone hb32 ⊢
  have hinfo : (Tryd.prog.info? 25).map (·.size) = some ys.toArray.size := by rw [List.size_toArray, hb32]; kernel_rfl
  have hinfo2 : (Tryd.prog.info? 25).map (·.size) = some ys.length := by rw [hb32]; kernel_rfl
  have hth : w6.there R 0 ys.toArray.size := by rw [List.size_toArray, hb32]; exact hd6.there
  have hrv := run_loadVar_mid (P := Tryd.prog) (w6.setCells R 0 ys.toArray.toList) R 0 25 ys _ (by have := World.rangeAt_setCells_same w6 R 0 ys (by rw [hb32]; exact hd6.there); simpa using this) Tryd.underlying25 rfl hinfo2
  have hfs := Fr.setCells' R ys.toArray.toList w6 0
  have HIN := Lib.hid (And.intro hinfo (And.intro hth (And.intro hrv (And.intro hfs (And.intro hys hby)))))
  have HON := Lib.hid hone
  have HF6 := Lib.hid hf6
  clear hinfo hinfo2 hth hrv hfs hys hby hone hb32 hd6 hf6 c0 c1 c2 c3 c4 c5 c6 c7
  go_wp2_with (refine wpList_store_mid rfl 25 (.tmp 2) (.tmp 12) rfl R 0 ys.toArray rfl rfl HIN.out.2.1 HIN.out.1 (all_one HON.out) ?_)
  refine bodyPost_ret (v := .agg ys.toArray) (by have h := HIN.out.2.2.1; simp [results, Tryd.results27, asAddr, Act.put] at h ⊢; exact h) rfl ⟨by rw [← HIN.out.2.2.2.2.2, HIN.out.2.2.2.2.1], ?_⟩
  have hx := HRE.out
  exact (((HF3.out.new HF5.out (fun i h => by have h1 : i = E := h; omega)).non HF6.out).new HIN.out.2.2.2.1 (fun i h => by have h1 : i = R := h; omega))
set_option maxRecDepth 100000 in
set_option maxHeartbeats 1000000 in
theorem nsum_any (w : World)
    (hK : KAt w 2) (hS : StAt w 0) :
    Calls Tryd.prog 27 #[.pointer none] w fun e w' => e = .returned (.agg (bs (sha [])).toArray) ∧ Fr Non w w' := by
  have HK := Lib.hid hK
  have HS := Lib.hid hS
  have hKs : 2 < w.heap.size := World.block_lt_of_cell? _ _ (hK 0 (by omega))
  have hSs : 0 < w.heap.size := World.block_lt_of_cell? _ _ (hS 0 (by omega))
  have HGS := Lib.hid (And.intro hKs hSs)
  have hzv : ∀ w, (zeroValue 57).run Tryd.prog w = .ok (.agg (us [0, 0, 0, 0, 0, 0, 0, 0] ++ (bs (List.replicate 64 0) ++ [Value.int .i64 ((0 : Nat) : Int)])).toArray) w := fun _ => by kernel_rfl
  obtain ⟨Z, hZ⟩ : ∃ Z, Z = us [0, 0, 0, 0, 0, 0, 0, 0] ++ (bs (List.replicate 64 0) ++ [Value.int .i64 ((0 : Nat) : Int)]) := ⟨_, rfl⟩
  rw [← hZ] at hzv
  have HZ := Lib.hid hZ
  clear hK hS hKs hSs hZ
  go_enter Tryd.func27, Tryd.ntmps27
  go_upto_region 4 with (fail)
  have hd0 : DB (w.alloc (.cells #[.int .u8 0, .int .u8 0, .int .u8 0, .int .u8 0, .int .u8 0, .int .u8 0, .int .u8 0, .int .u8 0, .int .u8 0, .int .u8 0, .int .u8 0, .int .u8 0, .int .u8 0, .int .u8 0, .int .u8 0, .int .u8 0, .int .u8 0, .int .u8 0, .int .u8 0, .int .u8 0, .int .u8 0, .int .u8 0, .int .u8 0, .int .u8 0, .int .u8 0, .int .u8 0, .int .u8 0, .int .u8 0, .int .u8 0, .int .u8 0, .int .u8 0, .int .u8 0] 25)) w.heap.size zero32 := DB.new w
  have hf1 := Fr.alloc w (.cells #[.int .u8 0, .int .u8 0, .int .u8 0, .int .u8 0, .int .u8 0, .int .u8 0, .int .u8 0, .int .u8 0, .int .u8 0, .int .u8 0, .int .u8 0, .int .u8 0, .int .u8 0, .int .u8 0, .int .u8 0, .int .u8 0, .int .u8 0, .int .u8 0, .int .u8 0, .int .u8 0, .int .u8 0, .int .u8 0, .int .u8 0, .int .u8 0, .int .u8 0, .int .u8 0, .int .u8 0, .int .u8 0, .int .u8 0, .int .u8 0, .int .u8 0, .int .u8 0] 25)
  have hs1 : (w.alloc (.cells #[.int .u8 0, .int .u8 0, .int .u8 0, .int .u8 0, .int .u8 0, .int .u8 0, .int .u8 0, .int .u8 0, .int .u8 0, .int .u8 0, .int .u8 0, .int .u8 0, .int .u8 0, .int .u8 0, .int .u8 0, .int .u8 0, .int .u8 0, .int .u8 0, .int .u8 0, .int .u8 0, .int .u8 0, .int .u8 0, .int .u8 0, .int .u8 0, .int .u8 0, .int .u8 0, .int .u8 0, .int .u8 0, .int .u8 0, .int .u8 0, .int .u8 0, .int .u8 0] 25)).heap.size = w.heap.size + 1 := by simp
  generalize w.alloc (.cells #[.int .u8 0, .int .u8 0, .int .u8 0, .int .u8 0, .int .u8 0, .int .u8 0, .int .u8 0, .int .u8 0, .int .u8 0, .int .u8 0, .int .u8 0, .int .u8 0, .int .u8 0, .int .u8 0, .int .u8 0, .int .u8 0, .int .u8 0, .int .u8 0, .int .u8 0, .int .u8 0, .int .u8 0, .int .u8 0, .int .u8 0, .int .u8 0, .int .u8 0, .int .u8 0, .int .u8 0, .int .u8 0, .int .u8 0, .int .u8 0, .int .u8 0, .int .u8 0] 25) = w1 at hd0 hf1 hs1 ⊢
  have he0 := Blk.new w1 57 Z
  have hf2 := Fr.alloc w1 (.cells Z.toArray 57)
  generalize w1.alloc (.cells Z.toArray 57) = w2 at he0 hf2 ⊢
  obtain ⟨R, hR⟩ : ∃ R, R = w.heap.size := ⟨_, rfl⟩
  obtain ⟨E, hE⟩ : ∃ E, E = w.heap.size + 1 := ⟨_, rfl⟩
  rw [hs1, ← hE] at he0
  rw [← hE, ← hR]
  rw [← hR] at hd0
  have HRE := Lib.hid (And.intro hR hE)
  have HD := Lib.hid (hd0.frame hf2 (fun h => h))
  have HF2 := Lib.hid (hf1.non hf2)
  have HE0 := Lib.hid he0
  have hi43 : (Tryd.prog.info? 57).map (·.size) = some 73 := by kernel_rfl
  have HI := Lib.hid hi43
  clear hd0 hf1 hf2 hs1 hR hE he0 hi43 hzv
  have hst3 : StL w2 E [] := ⟨⟨0, 0, 0, 0, 0, 0, 0, 0⟩, List.replicate 64 0, by unfold St8.ok; decide, by simp, rfl, fun h => absurd rfl h, by have := HE0.out; rw [HZ.out] at this; exact this⟩
  have HF3 : Hid (Fr Non w w2) := HF2
  have HD3 : Hid (DB w2 R zero32) := HD
  have hl : ([] : List UInt8).length ≤ 1000000000000000 := by simp
  generalize w2 = w3 at hst3 HF3 HD3 ⊢
  go_wp2_with fail
  have hne1 : ¬ E = R := by have := HRE.out; omega
  have hKE : E ≠ 2 := by have := HRE.out; have := HGS.out; omega
  have hSE : E ≠ 0 := by have := HRE.out; have := HGS.out; omega
  have HTB := Lib.hid (And.intro (HK.out.frame HF3.out (fun h => h)) (And.intro (HS.out.frame HF3.out (fun h => h)) (And.intro hKE hSE)))
  have HST4 := Lib.hid hst3
  clear hst3 hKE hSE
  refine (fill_any E [] _ HST4.out hl HTB.out.1 HTB.out.2.1 HTB.out.2.2.1 HTB.out.2.2.2).mono ?_
  rintro e w5 ⟨rfl, hst5, hf5⟩
  obtain ⟨s5, blk5, q1, q2, q3, q4, q5⟩ := hst5
  have hpn : ([] : List UInt8) ++ shaPad ([] : List UInt8).length ≠ [] := by simp [shaPad]
  have hs5 : s5 = shaEnd [] := by rw [q4 hpn, List.length_append]; rfl
  have hby : s5.bytes = sha [] := by rw [hs5]; rfl
  have hbl5 : (bs s5.bytes).length = 32 := by simp [bs_length, St8.bytes, beBytes_length]
  obtain ⟨c0, c1, c2, c3, c4, c5, c6, c7⟩ := q5.cells
  have hd5 : DB w5 R zero32 := HD3.out.frame hf5 (fun h => hne1 h.symm)
  have HQ1 := Lib.hid q1
  have HBY := Lib.hid hby
  have HD5 := Lib.hid hd5
  have HF5 := Lib.hid hf5
  have HBL := Lib.hid hbl5
  clear q1 q2 q3 q4 q5 hpn hs5 hby hd5 hf5 hbl5
  go_wp2_with fail
  refine (laid_any s5 _ HQ1.out).mono ?_
  rintro e w6 ⟨rfl, hf6⟩
  have hd6 := HD5.out.frame hf6 (fun h => h)
  have hone := bs_one s5.bytes
  have hb32 := HBL.out
  have hby := HBY.out
  generalize hys : bs s5.bytes = ys at hone hb32 ⊢
  have hinfo : (Tryd.prog.info? 25).map (·.size) = some ys.toArray.size := by rw [List.size_toArray, hb32]; kernel_rfl
  have hinfo2 : (Tryd.prog.info? 25).map (·.size) = some ys.length := by rw [hb32]; kernel_rfl
  have hth : w6.there R 0 ys.toArray.size := by rw [List.size_toArray, hb32]; exact hd6.there
  have hrv := run_loadVar_mid (P := Tryd.prog) (w6.setCells R 0 ys.toArray.toList) R 0 25 ys _ (by have := World.rangeAt_setCells_same w6 R 0 ys (by rw [hb32]; exact hd6.there); simpa using this) Tryd.underlying25 rfl hinfo2
  have hfs := Fr.setCells' R ys.toArray.toList w6 0
  have HIN := Lib.hid (And.intro hinfo (And.intro hth (And.intro hrv (And.intro hfs (And.intro hys hby)))))
  have HON := Lib.hid hone
  have HF6 := Lib.hid hf6
  clear hinfo hinfo2 hth hrv hfs hys hby hone hb32 hd6 hf6 c0 c1 c2 c3 c4 c5 c6 c7
  go_wp2_with (refine wpList_store_mid rfl 25 (.tmp 2) (.tmp 12) rfl R 0 ys.toArray rfl rfl HIN.out.2.1 HIN.out.1 (all_one HON.out) ?_)
  refine bodyPost_ret (v := .agg ys.toArray) (by have h := HIN.out.2.2.1; simp [results, Tryd.results27, asAddr, Act.put] at h ⊢; exact h) rfl ⟨by rw [← HIN.out.2.2.2.2.2, HIN.out.2.2.2.2.1], ?_⟩
  have hx := HRE.out
  exact (((HF3.out.new HF5.out (fun i h => by have h1 : i = E := h; omega)).non HF6.out).new HIN.out.2.2.2.1 (fun i h => by have h1 : i = R := h; omega))
end Go.Proofs.YtajknmapggkmnaaDoor
