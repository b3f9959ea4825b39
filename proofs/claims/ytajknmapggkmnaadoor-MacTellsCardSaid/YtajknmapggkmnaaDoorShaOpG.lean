/- package sha: Sum -/
import Derived.Test.YtajknmapggkmnaaDoorShaOpF
import Derived.Test.YtajknmapggkmnaaDoorMore
namespace Go.Proofs.YtajknmapggkmnaaDoor
open Go.ChangeShapes Go.WideShapes Go.ChangeAt Go.RowKit

set_option maxRecDepth 100000 in
set_option maxHeartbeats 1000000 in
theorem psum_any (v : Value) (ls : List (List UInt8)) (w : World) (hv : Rows2 w v ls) (hl : ls.flatten.length ≤ 500000000000000) (hm : ∀ l ∈ ls, l.length ≤ 140737488351232)
    (hK : KAt w 2) (hS : StAt w 0) :
    Calls Tryd.prog 20 #[v] w fun e w' => e = .returned (.agg (bs (sha ls.flatten)).toArray) ∧ Fr Non w w' := by
  obtain ⟨vs, hrow, hvl, hvr⟩ := hv
  obtain ⟨a, c, rfl, q1, q2, q3, q4⟩ := id hrow
  have HROW := Lib.hid hrow
  have HVR := Lib.hid hvr
  have HVL := Lib.hid hvl
  have HL := Lib.hid hl
  have HM := Lib.hid hm
  have HK := Lib.hid hK
  have HS := Lib.hid hS
  have hKs : 2 < w.heap.size := World.block_lt_of_cell? _ _ (hK 0 (by omega))
  have hSs : 0 < w.heap.size := World.block_lt_of_cell? _ _ (hS 0 (by omega))
  have HGS := Lib.hid (And.intro hKs hSs)
  have hzv : ∀ w, (zeroValue 57).run Tryd.prog w = .ok (.agg (us [0, 0, 0, 0, 0, 0, 0, 0] ++ (bs (List.replicate 64 0) ++ [Value.int .i64 ((0 : Nat) : Int)])).toArray) w := fun _ => by kernel_rfl
  obtain ⟨Z, hZ⟩ : ∃ Z, Z = us [0, 0, 0, 0, 0, 0, 0, 0] ++ (bs (List.replicate 64 0) ++ [Value.int .i64 ((0 : Nat) : Int)]) := ⟨_, rfl⟩
  rw [← hZ] at hzv
  have HZ := Lib.hid hZ
  have hvm : vs.length ≤ 9223372036854775807 := by unfold maxLen at q2; omega
  clear hrow hvr hvl hl hm hK hS hKs hSs hZ q1 q2 q3 q4
  go_enter Tryd.func20, Tryd.ntmps20
  go_upto_region 2 with (fail)
  have hd0 : DB (w.alloc (.cells #[.int .u8 0, .int .u8 0, .int .u8 0, .int .u8 0, .int .u8 0, .int .u8 0, .int .u8 0, .int .u8 0, .int .u8 0, .int .u8 0, .int .u8 0, .int .u8 0, .int .u8 0, .int .u8 0, .int .u8 0, .int .u8 0, .int .u8 0, .int .u8 0, .int .u8 0, .int .u8 0, .int .u8 0, .int .u8 0, .int .u8 0, .int .u8 0, .int .u8 0, .int .u8 0, .int .u8 0, .int .u8 0, .int .u8 0, .int .u8 0, .int .u8 0, .int .u8 0] 25)) w.heap.size zero32 := DB.new w
  have hf1 := Fr.alloc w (.cells #[.int .u8 0, .int .u8 0, .int .u8 0, .int .u8 0, .int .u8 0, .int .u8 0, .int .u8 0, .int .u8 0, .int .u8 0, .int .u8 0, .int .u8 0, .int .u8 0, .int .u8 0, .int .u8 0, .int .u8 0, .int .u8 0, .int .u8 0, .int .u8 0, .int .u8 0, .int .u8 0, .int .u8 0, .int .u8 0, .int .u8 0, .int .u8 0, .int .u8 0, .int .u8 0, .int .u8 0, .int .u8 0, .int .u8 0, .int .u8 0, .int .u8 0, .int .u8 0] 25)
  have hs1 : (w.alloc (.cells #[.int .u8 0, .int .u8 0, .int .u8 0, .int .u8 0, .int .u8 0, .int .u8 0, .int .u8 0, .int .u8 0, .int .u8 0, .int .u8 0, .int .u8 0, .int .u8 0, .int .u8 0, .int .u8 0, .int .u8 0, .int .u8 0, .int .u8 0, .int .u8 0, .int .u8 0, .int .u8 0, .int .u8 0, .int .u8 0, .int .u8 0, .int .u8 0, .int .u8 0, .int .u8 0, .int .u8 0, .int .u8 0, .int .u8 0, .int .u8 0, .int .u8 0, .int .u8 0] 25)).heap.size = w.heap.size + 1 := by simp
  generalize w.alloc (.cells #[.int .u8 0, .int .u8 0, .int .u8 0, .int .u8 0, .int .u8 0, .int .u8 0, .int .u8 0, .int .u8 0, .int .u8 0, .int .u8 0, .int .u8 0, .int .u8 0, .int .u8 0, .int .u8 0, .int .u8 0, .int .u8 0, .int .u8 0, .int .u8 0, .int .u8 0, .int .u8 0, .int .u8 0, .int .u8 0, .int .u8 0, .int .u8 0, .int .u8 0, .int .u8 0, .int .u8 0, .int .u8 0, .int .u8 0, .int .u8 0, .int .u8 0, .int .u8 0] 25) = w1 at hd0 hf1 hs1 ⊢
  have he0 := Blk.new w1 57 Z
  have hf2 := Fr.alloc w1 (.cells Z.toArray 57)
  generalize w1.alloc (.cells Z.toArray 57) = w2 at he0 hf2 ⊢
  obtain ⟨R, hR⟩ : ∃ R, R = w.heap.size := ⟨_, rfl⟩
  obtain ⟨E, hE⟩ : ∃ E, E = w.heap.size + 1 := ⟨_, rfl⟩
  rw [hs1, ← hE] at he0
  rw [← hE, ← hR]
  rw [← hR] at hd0
  have HRE := Lib.hid (And.intro hR hE)
  have HD := Lib.hid (hd0.frame hf2 (fun h => h))
  have HF2 := Lib.hid (hf1.non hf2)
  have hst0 : StL w2 E [] := ⟨⟨0, 0, 0, 0, 0, 0, 0, 0⟩, List.replicate 64 0, by unfold St8.ok; decide, by simp, rfl, fun h => absurd rfl h, by rw [HZ.out] at he0; exact he0⟩
  have HST0 := Lib.hid hst0
  clear hd0 hf1 hf2 hs1 hR hE he0 hzv hst0
  go_wp2_with fail
  go_loopw [8] (fun i wr => ∃ k : Nat, k ≤ vs.length ∧ i = .int .i64 k ∧ StL wr E (ls.take k).flatten ∧ Fr (One E) w2 wr) (fun i _ => vs.length - (intOf i).toNat)
  case atStart => exact ⟨0, Nat.zero_le _, rfl, HST0.out, Fr.refl _ _⟩
  case round =>
    obtain ⟨k, hk, rfl, hst, hfr⟩ := hrel
    have HST := Lib.hid hst
    have HFR := Lib.hid hfr
    have hfw : Fr Non w wr := HF2.out.new hfr (fun i h => by have h1 : i = E := h; have := HRE.out; omega)
    have HFW := Lib.hid hfw
    have hKE : E ≠ 2 := by have := HRE.out; have := HGS.out; omega
    have hSE : E ≠ 0 := by have := HRE.out; have := HGS.out; omega
    have HTB := Lib.hid (And.intro (HK.out.frame hfw (fun h => h)) (And.intro (HS.out.frame hfw (fun h => h)) (And.intro hKE hSE)))
    clear hst hfr hfw hKE hSE
    by_cases hlt : k < vs.length
    · obtain ⟨a', c', e, _, _, _, q4⟩ := HROW.out.non HFW.out
      obtain ⟨b, off, hab, hc⟩ := q4 k hlt
      injection e with e1 e2 e3
      subst hab
      subst e1
      clear e2 e3 q4
      obtain ⟨u, hu⟩ : ∃ u, vs[k]? = some u := ⟨_, List.getElem?_eq_getElem hlt⟩
      have hck := hc k u hu
      have hru := HVR.out k u hu
      have hkl : k < ls.length := by have := HVL.out; omega
      have hmem : ls[k]! ∈ ls := by rw [getElem!_pos ls k hkl]; exact List.getElem_mem hkl
      have hml := HM.out _ hmem
      have htk : (ls.take (k + 1)).flatten = (ls.take k).flatten ++ ls[k]! := by
        rw [List.take_succ_eq_append_getElem hkl, List.flatten_append, getElem!_pos ls k hkl]; simp
      have hll : (ls.take k).flatten.length ≤ 1000000000000000 := by
        have h1 : ls.flatten = (ls.take k).flatten ++ (ls.drop k).flatten := by rw [← List.flatten_append, List.take_append_drop]
        have h2 := HL.out
        rw [h1, List.length_append] at h2
        omega
      have hoff : ls[k]! ≠ [] → Off (One E) u := fun h => Row.offNew hru (fun i h => by have h1 : i = E := h; have := HRE.out; omega) h
      have HX := Lib.hid (And.intro (hru.non HFW.out) (And.intro hoff (And.intro hll (And.intro hml htk))))
      have z0 : (0 : Int) ≤ (k : Int) := by omega
      have z1 : (k : Int) < (vs.length : Int) := by omega
      clear hc hu hru hmem hml htk hll hoff
      go_wp2_with (go_at_call 25; refine (write_any E _ _ _ _ HST.out HX.out.1 HX.out.2.1 HX.out.2.2.1 HX.out.2.2.2.1 HTB.out.1 HTB.out.2.1 HTB.out.2.2.1 HTB.out.2.2.2).mono ?_; rintro e w9 ⟨rfl, h9, hf9⟩)
      go_roundw
      case rel => exact ⟨k + 1, by omega, by go_num, by rw [HX.out.2.2.2.2]; exact h9, HFR.out.trans hf9 (fun _ h => h) (fun _ h => .inl h)⟩
      case measure => simp [intOf]; omega
    · have hkn : k = vs.length := by omega
      have hft : (ls.take k).flatten = ls.flatten := by rw [List.take_of_length_le (by have := HVL.out; omega)]
      have hge : decide ((k : Int) < (vs.length : Int)) = false := by simp; omega
      have hD2 : DB wr R zero32 := HD.out.frame HFR.out (fun h => by have h1 : R = E := h; have := HRE.out; omega)
      have hst2 : StL wr E ls.flatten := by rw [← hft]; exact HST.out
      have hlb : ls.flatten.length ≤ 1000000000000000 := by have := HL.out; omega
      have HY := Lib.hid (And.intro hD2 (And.intro hst2 hlb))
      clear hkn hft hD2 hst2 hlb
      go_wp2_with fail
      refine (ssum_any E _ _ HY.out.2.1 HY.out.2.2 HTB.out.1 HTB.out.2.1).mono ?_
      rintro e w6 ⟨rfl, hf6⟩
      have hd6 := HY.out.1.frame hf6 (fun h => h)
      have hone := bs_one (sha ls.flatten)
      have hb32 : (bs (sha ls.flatten)).length = 32 := by rw [bs_length, sha_length]
      generalize hys : bs (sha ls.flatten) = ys at hone hb32 ⊢
      have hinfo : (Tryd.prog.info? 25).map (·.size) = some ys.toArray.size := by rw [List.size_toArray, hb32]; kernel_rfl
      have hinfo2 : (Tryd.prog.info? 25).map (·.size) = some ys.length := by rw [hb32]; kernel_rfl
      have hth : w6.there R 0 ys.toArray.size := by rw [List.size_toArray, hb32]; exact hd6.there
      have hrv := run_loadVar_mid (P := Tryd.prog) (w6.setCells R 0 ys.toArray.toList) R 0 25 ys _ (by have := World.rangeAt_setCells_same w6 R 0 ys (by rw [hb32]; exact hd6.there); simpa using this) Tryd.underlying25 rfl hinfo2
      have hfs := Fr.setCells' R ys.toArray.toList w6 0
      have HIN := Lib.hid (And.intro hinfo (And.intro hth (And.intro hrv (And.intro hfs hys))))
      have HON := Lib.hid hone
      have HF6 := Lib.hid hf6
      clear hinfo hinfo2 hth hrv hfs hys hone hb32 hd6 hf6
      go_wp2_with (refine wpList_store_mid rfl 25 (.tmp 2) (.tmp 15) rfl R 0 ys.toArray rfl rfl HIN.out.2.1 HIN.out.1 (all_one HON.out) ?_)
      refine bodyPost_ret (v := .agg ys.toArray) (by have h := HIN.out.2.2.1; simp [results, Tryd.results20, asAddr, Act.put] at h ⊢; exact h) rfl ⟨by rw [← HIN.out.2.2.2.2], ?_⟩
      have hx := HRE.out
      exact (HFW.out.non HF6.out).new HIN.out.2.2.2.1 (fun i h => by have h1 : i = R := h; omega)
end Go.Proofs.YtajknmapggkmnaaDoor
