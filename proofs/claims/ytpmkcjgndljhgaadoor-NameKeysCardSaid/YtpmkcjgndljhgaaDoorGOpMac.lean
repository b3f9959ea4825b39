/- GOpMac: MacOpA, MacOpB, MacOpC, one behind the other. -/
import Derived.Test.YtpmkcjgndljhgaaDoorGRefSha
import Derived.Test.YtpmkcjgndljhgaaDoorGOpShaB

/- package mac: mixed, brought -/
namespace Go.Proofs.YtpmkcjgndljhgaaDoor
open Go.ChangeShapes Go.WideShapes Go.ChangeAt Go.RowKit

/-- k places are mixed -/
def mixL (K : List UInt8) (b : UInt8) (k : Nat) : List UInt8 := (K.take k).map (· ^^^ b) ++ K.drop k
theorem mixL_length (K : List UInt8) (b : UInt8) (k : Nat) (hk : k ≤ K.length) : (mixL K b k).length = K.length := by
  unfold mixL; simp; omega
theorem mixL_at (K : List UInt8) (b : UInt8) (k : Nat) (hk : k < K.length) : (mixL K b k)[k]? = some K[k]! := by
  unfold mixL
  rw [List.getElem?_append_right (by simp; omega), getElem!_pos K k hk]
  simp
  rw [Nat.min_eq_left (by omega)]; simp [hk]
theorem mixL_set (K : List UInt8) (b : UInt8) (k : Nat) (hk : k < K.length) : (mixL K b k).set k (K[k]! ^^^ b) = mixL K b (k + 1) := by
  unfold mixL
  have h1 : ((K.take k).map (· ^^^ b)).length = k := by simp; omega
  rw [List.set_append_right _ _ (by omega), h1, Nat.sub_self, List.drop_eq_getElem_cons hk, List.set_cons_zero, List.take_succ_eq_append_getElem hk, List.map_append, List.append_assoc, getElem!_pos K k hk]
  rfl

set_option maxRecDepth 100000 in
set_option maxHeartbeats 1000000 in
theorem mixed_any (K : List UInt8) (by_ : UInt8) (w : World) (hK : K.length = 64) :
    Calls Tryd.prog 71 #[.agg (bs K).toArray, .int .u8 by_.toNat] w fun e w' => ∃ B, e = .returned (.slice (some ⟨B, 0, none⟩) 64 64) ∧ w.heap.size ≤ B ∧ Blk w' B 107 (bs (K.map (· ^^^ by_))) ∧ Fr Non w w' := by
  have HL := Lib.hid hK
  clear hK
  go_enter Tryd.func71, Tryd.ntmps71
  go_wp2_with fail
  have hb := Blk.new w 107 (bs K)
  have hf := Fr.alloc w (.cells (bs K).toArray 107)
  obtain ⟨B, hB⟩ : ∃ B, B = w.heap.size := ⟨_, rfl⟩
  rw [← hB] at hb ⊢
  have HB := Lib.hid hb
  have HF := Lib.hid hf
  have HBW := Lib.hid hB
  clear hb hf hB
  go_loopw [6] (fun i wr => ∃ k : Nat, k ≤ 64 ∧ i = .int .i64 k ∧ Blk wr B 107 (bs (mixL K by_ k)) ∧ Fr Non w wr) (fun i _ => 64 - (intOf i).toNat)
  case atStart => exact ⟨0, by omega, rfl, by unfold mixL; simpa using HB.out, HF.out⟩
  case round =>
    obtain ⟨k, hk, rfl, hb, hfr⟩ := hrel
    have HBk := Lib.hid hb
    have HFR := Lib.hid hfr
    clear hb hfr
    by_cases hlt : k < 64
    · have hkl : k < K.length := by rw [HL.out]; exact hlt
      have x0 := (HBk.out.at k (.int .u8 (K[k]!.toNat : Int)) (by rw [bs, List.getElem?_map, mixL_at K by_ k hkl]; rfl))
      obtain ⟨x0, f0⟩ := x0
      have HS := Lib.hid (mixL_set K by_ k hkl)
      have hxx := u8xor K[k]! by_
      have z0 : (0 : Int) ≤ (k : Int) := by omega
      have z1 : (k : Int) < 64 := by omega
      have hg : K[k]!.toNat < 256 := K[k]!.toNat_lt
      clear hkl
      generalize K[k]! = x at x0 HS hxx hg
      go_wp2
      go_roundw
      case rel =>
        have hs := HBk.out.set k (.int .u8 ((x ^^^ by_).toNat : Int))
        rw [bs_set, HS.out] at hs
        have hw := HBW.out
        exact ⟨k + 1, by omega, by go_num, hs, HFR.out.new (Fr.setCell wr _ _) (fun i h => by have h1 : i = B := h; omega)⟩
      case measure => simp [intOf]; omega
    · have h64 : k = 64 := by omega
      have hb : Blk wr B 107 (bs (K.map (· ^^^ by_))) := by
        have h := HBk.out
        have hl := HL.out
        rw [h64] at h
        unfold mixL at h
        rwa [List.take_of_length_le (by omega), List.drop_of_length_le (by omega), List.append_nil] at h
      have HB4 := Lib.hid hb
      have hge : decide ((k : Int) < 64) = false := by simp; omega
      clear hb h64
      go_wp2
      go_ret
      exact ⟨B, rfl, by have := HBW.out; omega, HB4.out, HFR.out⟩
end Go.Proofs.YtpmkcjgndljhgaaDoor

/- package mac: brought -/
namespace Go.Proofs.YtpmkcjgndljhgaaDoor
open Go.ChangeShapes Go.WideShapes Go.ChangeAt Go.RowKit

/-- the tables lie as they were laid -/
def ShaT (w : World) : Prop := KAt w 4 ∧ StAt w 1
theorem ShaT.non {w w' : World} (h : ShaT w) (f : Fr Non w w') : ShaT w' := ⟨h.1.frame f (fun h => h), h.2.frame f (fun h => h)⟩
theorem zero64_length : zero64.length = 64 := by unfold zero64; simp
theorem splice_key (k : List UInt8) (hk : k.length ≤ 64) : splice (bs zero64) 0 ((bs k).take 64) = bs (k ++ List.replicate (64 - k.length) 0) := by
  have h1 : (bs k).take 64 = bs k := List.take_of_length_le (by rw [bs_length]; exact hk)
  rw [h1]
  unfold splice zero64 bs
  rw [List.take_zero, List.nil_append, Nat.zero_add, List.map_replicate, List.drop_replicate, List.map_append, List.map_replicate, List.length_map]

set_option maxRecDepth 100000 in
set_option maxHeartbeats 1000000 in
theorem brought_any (v : Value) (key : List UInt8) (w : World) (hv : Row w v (bs key)) (hl : key.length ≤ 140737488351232) (hT : ShaT w) :
    Calls Tryd.prog 68 #[v] w fun e w' => e = .returned (.agg (bs (macKey key)).toArray) ∧ Fr Non w w' := by
  obtain ⟨a, c, rfl, -⟩ := id hv
  rw [bs_length] at hv ⊢
  have HV := Lib.hid hv
  have HT := Lib.hid hT
  have hzk : ∀ w, (zeroValue 107).run Tryd.prog w = .ok (.agg (bs zero64).toArray) w := fun _ => by kernel_rfl
  have HZK := Lib.hid hzk
  have hif : (Tryd.prog.info? 107).map (·.size) = some 64 := by kernel_rfl
  have HIF := Lib.hid hif
  have hzv : ∀ w, (zeroValue 42).run Tryd.prog w = .ok (.agg (bs zero32).toArray) w := fun _ => by kernel_rfl
  have HZV := Lib.hid hzv
  have hid : (Tryd.prog.info? 42).map (·.size) = some 32 := by kernel_rfl
  have HID := Lib.hid hid
  have hlenv := run_lenRow (P := Tryd.prog) hv 33 5 Tryd.underlying33
  rw [bs_length] at hlenv
  clear hv hT hzk hif hzv hid
  go_enter Tryd.func68, Tryd.ntmps68
  go_wp2_with (first | (refine wpList_allocZ (o := ⟨some 2, _, _, _, _, none⟩) rfl 107 rfl _ HZK.out ?_))
  intro w1 hb1 hf1 hs1
  go_wp2_with (first | (refine wpList_allocZ (o := ⟨some 3, _, _, _, _, none⟩) rfl 107 rfl _ HZK.out ?_))
  intro w2 hb2 hf2 hs2
  obtain ⟨R, hR⟩ : ∃ R, R = w.heap.size := ⟨_, rfl⟩
  obtain ⟨G, hG⟩ : ∃ G, G = w.heap.size + 1 := ⟨_, rfl⟩
  rw [← hG] at hb2
  rw [← hR] at hb1
  rw [← hG, ← hR]
  have HRG := Lib.hid (And.intro hR hG)
  have HR2 := Lib.hid (hb1.non hf2)
  have HG2 := Lib.hid hb2
  have HF2 := Lib.hid (hf1.non hf2)
  clear hb1 hb2 hf1 hf2 hs1 hs2 hR hG
  by_cases h64 : 64 < key.length
  case' pos =>
    have ht : (64 : Int) < (key.length : Int) := by omega
    go_wp2_with fail
    refine (psum_any _ [key] _ (Rows2.built (n := 1) (us := [.slice a key.length c]) rfl rfl (by decide) rfl (all1 (HV.out.non HF2.out))) (by simp; omega) (by simpa using hl) ((HT.out.non HF2.out).1.frame (Fr.alloc _ _) (fun h => h)) ((HT.out.non HF2.out).2.frame (Fr.alloc _ _) (fun h => h))).mono ?_
    rintro e w3 ⟨rfl, hf3⟩
    rw [show [key].flatten = key by simp]
    have HMK : Hid ((sha key).length = 32 ∧ macKey key = sha key ++ List.replicate (64 - (sha key).length) 0) := Lib.hid ⟨sha_length _, by unfold macKey; rw [if_pos h64]⟩
    generalize sha key = K at HMK
    have HF3 : Hid (Fr Non w2 w3) := Lib.hid ((Fr.alloc _ _).non hf3)
    clear hf3
    go_wp2_with (refine wpList_var rfl rfl 42 4 (.tmp 10) rfl rfl rfl rfl _ (bs K) HZV.out (by rw [bs_length, bs_length, HMK.out.1]; rfl) (by rw [bs_length, HMK.out.1]; exact HID.out) (bs_one _) (by simp) (fun _ => rfl) ?_)
    intro w4 hb4 hf4 hs4
    simp only [List.set_cons_succ, List.set_cons_zero]
    obtain ⟨X, hX⟩ : ∃ X, X = w3.heap.size := ⟨_, rfl⟩
    rw [← hX] at hb4 ⊢
    have HV4 : Hid (Row w4 (.slice (some ⟨X, 0, none⟩) 32 32) (bs K)) := Lib.hid (by
      have h := hb4.row 0 32 (bs K) (by rw [bs_length, HMK.out.1]; omega) (by unfold maxLen; omega) (fun j v hj => by rw [Nat.zero_add]; exact hj)
      rw [bs_length, HMK.out.1] at h
      exact h)
    have HF4 := Lib.hid (HF3.out.non hf4)
    have HKL : Hid (K.length ≤ 64 ∧ macKey key = K ++ List.replicate (64 - K.length) 0) := Lib.hid ⟨by rw [HMK.out.1]; omega, HMK.out.2⟩
    clear hb4 hf4 hs4 hX HF3 HMK h64
  case' neg =>
    have HMK : Hid (macKey key = key ++ List.replicate (64 - key.length) 0) := Lib.hid (by unfold macKey; rw [if_neg h64])
    have HV4 : Hid (Row w2 (.slice a key.length c) (bs key)) := Lib.hid (HV.out.non HF2.out)
    have HF4 : Hid (Fr Non w2 w2) := Lib.hid (Fr.refl _ _)
    have HKL : Hid (key.length ≤ 64 ∧ macKey key = key ++ List.replicate (64 - key.length) 0) := Lib.hid ⟨by omega, HMK.out⟩
    have hle : decide ((64 : Int) < (key.length : Int)) = false := by simp; omega
    clear HMK h64
  all_goals
    go_wp2_with ((with_reducible show wpList _ _ _ (({ op := .call { callee := .builtin .copy, .. }, .. } : Oper) :: _) _ _); refine wpList_copy_fr rfl (.tmp 12) (.tmp 13) 33 33 rfl 5 Tryd.underlying33 (by kernel_rfl) G 0 _ 107 (HG2.out.non HF4.out) 64 64 _ _ HV4.out rfl rfl (by rw [bs_length, zero64_length]; omega) (bs_one _) ?_)
    intro w5 hb5 hf5
    rw [splice_key _ HKL.out.1, ← HKL.out.2] at hb5
    have hml := macKey_length key
    obtain ⟨M, hM⟩ : ∃ M, M = macKey key := ⟨_, rfl⟩
    rw [← hM] at hb5 hml
    have HM := Lib.hid hM
    clear hM
    have hR5 : Blk w5 R 107 (bs zero64) := (HR2.out.non HF4.out).frame hf5 (fun h => by have h1 : R = G := h; have := HRG.out; omega)
    have hf5w : Fr Non w w5 := (HF2.out.non HF4.out).new hf5 (fun i h => by have h1 : i = G := h; have := HRG.out; omega)
    have hone := bs_one M
    have hb64 : (bs M).length = 64 := by rw [bs_length, hml]
    have hinfo : (Tryd.prog.info? 107).map (·.size) = some (bs M).toArray.size := by rw [List.size_toArray, hb64]; exact HIF.out
    have hinfo2 : (Tryd.prog.info? 107).map (·.size) = some (bs M).length := by rw [hb64]; exact HIF.out
    have hth2 := hR5.there 0 (bs M).length (by rw [hb64, bs_length, zero64_length]; omega)
    have hth : w5.there R 0 (bs M).toArray.size := by rw [List.size_toArray]; exact hth2
    have hrv := run_loadVar_mid (P := Tryd.prog) (w5.setCells R 0 (bs M).toArray.toList) R 0 107 (bs M) _ (by have := World.rangeAt_setCells_same w5 R 0 (bs M) hth2; simpa using this) Tryd.underlying107 rfl hinfo2
    have hfs := Fr.setCells' R (bs M).toArray.toList w5 0
    obtain ⟨w6, hw6⟩ : ∃ w6, w6 = w5.setCells R 0 (bs M).toArray.toList := ⟨_, rfl⟩
    rw [← hw6] at hrv hfs
    have HW6 := Lib.hid hw6
    have HIN2 := Lib.hid (And.intro hinfo (And.intro hth (And.intro hrv (And.intro hfs hinfo2))))
    have HON := Lib.hid hone
    have HB5 := Lib.hid hb5
    have HF5 := Lib.hid hf5w
    clear hb5 hf5 hml hR5 hf5w hone hb64 hinfo hinfo2 hth2 hth hrv hfs hw6
    go_upto_region 6 with (fail)
    refine wp_region_lit ?_
    refine wpList_load_mid rfl 107 (.tmp 3) rfl G 0 rfl (bs M) _ (HB5.out.range 0 _ (fun j v hj => by simpa using hj)) Tryd.underlying107 rfl HIN2.out.2.2.2.2 ?_
    simp only [Act.put, List.setIfInBounds_toArray, List.set_cons_succ, List.set_cons_zero]
    refine wpList_store_mid rfl 107 (.tmp 2) (.tmp 15) rfl R 0 (bs M).toArray rfl rfl HIN2.out.2.1 HIN2.out.1 (all_oneCell_toArray HON.out) ?_
    rw [← HW6.out]
    repeat (first | go_skip | go_step)
    refine bodyPost_ret (v := .agg (bs M).toArray) (by have h := HIN2.out.2.2.1; simp [results, Tryd.results68, asAddr] at h ⊢; exact h) rfl ⟨by rw [HM.out], ?_⟩
    have hx := HRG.out
    exact HF5.out.new HIN2.out.2.2.2.1 (fun i h => by have h1 : i = R := h; omega)
end Go.Proofs.YtpmkcjgndljhgaaDoor

/- package mac: Sum -/
namespace Go.Proofs.YtpmkcjgndljhgaaDoor
open Go.ChangeShapes Go.WideShapes Go.ChangeAt Go.RowKit

set_option maxRecDepth 100000 in
set_option maxHeartbeats 2000000 in
theorem macOp_any (v u : Value) (key : List UInt8) (ls : List (List UInt8)) (w : World) (hv : Row w v (bs key)) (hl : key.length ≤ 140737488351232) (hu : Rows2 w u ls) (hls : ls.flatten.length ≤ 400000000000000) (hlm : ∀ l ∈ ls, l.length ≤ 140737488351232) (hT : ShaT w) :
    Calls Tryd.prog 56 #[v, u] w fun e w' => e = .returned (.agg (bs (macSum key ls.flatten)).toArray) ∧ Fr Non w w' := by
  obtain ⟨vs, hrow, hvl, hvr⟩ := hu
  obtain ⟨a, c, rfl, q1, q2, q3, q4⟩ := id hrow
  have HROW := Lib.hid hrow
  have HVR := Lib.hid hvr
  have HVL := Lib.hid hvl
  have HLS := Lib.hid hls
  have HLM := Lib.hid hlm
  have HV := Lib.hid hv
  have HT := Lib.hid hT
  have hKs : 4 < w.heap.size := World.block_lt_of_cell? _ _ (hT.1 0 (by omega))
  have hSs : 1 < w.heap.size := World.block_lt_of_cell? _ _ (hT.2 0 (by omega))
  have HGS := Lib.hid (And.intro hKs hSs)
  have hzk : ∀ w, (zeroValue 107).run Tryd.prog w = .ok (.agg (bs zero64).toArray) w := fun _ => by kernel_rfl
  have HZK := Lib.hid hzk
  have hif : (Tryd.prog.info? 107).map (·.size) = some 64 := by kernel_rfl
  have HIF := Lib.hid hif
  have hzv : ∀ w, (zeroValue 42).run Tryd.prog w = .ok (.agg (bs zero32).toArray) w := fun _ => by kernel_rfl
  have HZV := Lib.hid hzv
  have hid : (Tryd.prog.info? 42).map (·.size) = some 32 := by kernel_rfl
  have HID := Lib.hid hid
  have hvm : vs.length ≤ 9223372036854775807 := by unfold maxLen at q2; omega
  clear hrow hvr hvl hls hlm hv hT hKs hSs hzk hif hzv hid q1 q2 q3 q4
  go_enter Tryd.func56, Tryd.ntmps56
  go_upto_region 1 with (fail)
  have hd0 : DB (w.alloc (.cells #[.int .u8 0, .int .u8 0, .int .u8 0, .int .u8 0, .int .u8 0, .int .u8 0, .int .u8 0, .int .u8 0, .int .u8 0, .int .u8 0, .int .u8 0, .int .u8 0, .int .u8 0, .int .u8 0, .int .u8 0, .int .u8 0, .int .u8 0, .int .u8 0, .int .u8 0, .int .u8 0, .int .u8 0, .int .u8 0, .int .u8 0, .int .u8 0, .int .u8 0, .int .u8 0, .int .u8 0, .int .u8 0, .int .u8 0, .int .u8 0, .int .u8 0, .int .u8 0] 42)) w.heap.size zero32 := DB.new w
  have hf1 := Fr.alloc w (.cells #[.int .u8 0, .int .u8 0, .int .u8 0, .int .u8 0, .int .u8 0, .int .u8 0, .int .u8 0, .int .u8 0, .int .u8 0, .int .u8 0, .int .u8 0, .int .u8 0, .int .u8 0, .int .u8 0, .int .u8 0, .int .u8 0, .int .u8 0, .int .u8 0, .int .u8 0, .int .u8 0, .int .u8 0, .int .u8 0, .int .u8 0, .int .u8 0, .int .u8 0, .int .u8 0, .int .u8 0, .int .u8 0, .int .u8 0, .int .u8 0, .int .u8 0, .int .u8 0] 42)
  generalize w.alloc (.cells #[.int .u8 0, .int .u8 0, .int .u8 0, .int .u8 0, .int .u8 0, .int .u8 0, .int .u8 0, .int .u8 0, .int .u8 0, .int .u8 0, .int .u8 0, .int .u8 0, .int .u8 0, .int .u8 0, .int .u8 0, .int .u8 0, .int .u8 0, .int .u8 0, .int .u8 0, .int .u8 0, .int .u8 0, .int .u8 0, .int .u8 0, .int .u8 0, .int .u8 0, .int .u8 0, .int .u8 0, .int .u8 0, .int .u8 0, .int .u8 0, .int .u8 0, .int .u8 0] 42) = w1 at hd0 hf1 ⊢
  obtain ⟨R, hR⟩ : ∃ R, R = w.heap.size := ⟨_, rfl⟩
  rw [← hR] at hd0 ⊢
  have HR := Lib.hid hR
  have HD1 := Lib.hid hd0
  have HF1 := Lib.hid hf1
  clear hd0 hf1 hR
  go_wp2_with fail
  refine (brought_any _ key _ (HV.out.non HF1.out) hl (HT.out.non HF1.out)).mono ?_
  rintro e w2 ⟨rfl, hf2⟩
  have hml := macKey_length key
  obtain ⟨M, hM⟩ : ∃ M, M = macKey key := ⟨_, rfl⟩
  rw [← hM] at hml ⊢
  have HM := Lib.hid (And.intro hM hml)
  clear hM hml
  go_wp2_with ((with_reducible show wpList _ _ _ (({ op := .alloc _, .. } : Oper) :: _) _ _); refine wpList_var rfl rfl 107 5 (.tmp 11) rfl rfl rfl rfl _ (bs M) HZK.out (by rw [bs_length, bs_length, HM.out.2, zero64_length]) (by rw [bs_length, HM.out.2]; exact HIF.out) (bs_one _) (by simp) (fun _ => rfl) ?_)
  intro w3 hb3 hf3 hs3
  simp only [List.set_cons_succ, List.set_cons_zero]
  obtain ⟨G, hG⟩ : ∃ G, G = w2.heap.size := ⟨_, rfl⟩
  rw [← hG] at hb3 ⊢
  have HG := Lib.hid (And.intro hG hs3)
  have HB3 := Lib.hid hb3
  have HF3 : Hid (Fr Non w1 w3) := Lib.hid (hf2.non hf3)
  have HF2 := Lib.hid hf2
  clear hb3 hf3 hs3 hG hf2
  go_wp2_with fail
  refine (new_any w3).mono ?_
  rintro e w4 ⟨E, rfl, hst, hE, hf4⟩
  have HE := Lib.hid hE
  have HST := Lib.hid hst
  have HF4 := Lib.hid hf4
  clear hE hst hf4
  have hLM : (Tryd.prog.info? 107).map (·.size) = some (bs M).length := by rw [bs_length, HM.out.2]; exact HIF.out
  have HLM2 := Lib.hid hLM
  clear hLM
  go_wp2_with ((with_reducible show wpList _ _ _ (({ op := .load _ _, .. } : Oper) :: _) _ _); refine wpList_load_mid rfl 107 (.tmp 5) rfl G 0 rfl (bs M) _ ((HB3.out.non HF4.out).range 0 _ (fun j v hj => by simpa using hj)) Tryd.underlying107 rfl HLM2.out ?_)
  refine (mixed_any M 54 w4 HM.out.2).mono ?_
  rintro e w5 ⟨X, rfl, hX, hbX, hf5⟩
  have HX := Lib.hid hX
  have HBX := Lib.hid hbX
  have HF5 := Lib.hid hf5
  clear hX hbX hf5
  have hcr : M.map (· ^^^ 54) = macCross key 54 := by rw [macCross, HM.out.1]
  rw [hcr] at HBX
  have hel : E < w4.heap.size := HST.out.lt
  have HEL := Lib.hid hel
  have hKE : E ≠ 4 := by have h1 := HE.out; have h2 := HGS.out; have h3 := HF1.out.size; have h4 := HF3.out.size; omega
  have hSE : E ≠ 1 := by have h1 := HE.out; have h2 := HGS.out; have h3 := HF1.out.size; have h4 := HF3.out.size; omega
  have HKS := Lib.hid (And.intro hKE hSE)
  have HFW5 : Hid (Fr Non w w5) := Lib.hid (HF1.out.non (HF3.out.non (HF4.out.non HF5.out)))
  clear hcr hel hKE hSE
  go_wp2_with fail
  have hrx : Row w5 (.slice (some ⟨X, 0, none⟩) 64 64) (bs (macCross key 54)) := by
    have h := HBX.out.row 0 64 (bs (macCross key 54)) (by rw [bs_length, macCross_length]; omega) (by unfold maxLen; omega) (fun j v hj => by rw [Nat.zero_add]; exact hj)
    rw [bs_length, macCross_length] at h
    exact h
  have hox : Off (One E) (.slice (some ⟨X, 0, none⟩) 64 64) := fun b off n c e h => by
    injection e with e _ _
    injection e with e
    injection e with e1 e2
    have h1 : b = E := h
    have h2 := HX.out
    have h3 := HEL.out
    omega
  refine (write_any E [] (macCross key 54) _ w5 (HST.out.frame HF5.out (fun h => h)) hrx (fun _ => hox) (by simp) (by rw [macCross_length]; omega) (HT.out.non HFW5.out).1 (HT.out.non HFW5.out).2 HKS.out.1 HKS.out.2).mono ?_
  rintro e w6 ⟨rfl, hst6, hf6⟩
  rw [List.nil_append] at hst6
  have HST6 := Lib.hid hst6
  have HF6 := Lib.hid hf6
  have HEW : Hid (w.heap.size ≤ E) := Lib.hid (by have h1 := HE.out; have h2 := HGS.out; have h3 := HF1.out.size; have h4 := HF3.out.size; omega)
  clear hrx hox hst6 hf6
  go_wp2_with fail
  go_loopw [19] (fun i wr => ∃ k : Nat, k ≤ vs.length ∧ i = .int .i64 k ∧ StL wr E (macCross key 54 ++ (ls.take k).flatten) ∧ Fr (One E) w5 wr) (fun i _ => vs.length - (intOf i).toNat)
  case atStart => exact ⟨0, Nat.zero_le _, rfl, by simpa using HST6.out, HF6.out⟩
  case round =>
    obtain ⟨k, hk, rfl, hst, hfr⟩ := hrel
    have HST := Lib.hid hst
    have HFR := Lib.hid hfr
    have hfw : Fr Non w wr := HFW5.out.new hfr (fun i h => by have h1 : i = E := h; have := HEW.out; omega)
    have HFW := Lib.hid hfw
    have HTB := Lib.hid (HT.out.non hfw)
    clear hst hfr hfw
    by_cases hlt : k < vs.length
    · obtain ⟨a', c', e, _, _, _, q4⟩ := HROW.out.non HFW.out
      obtain ⟨b, off, hab, hc⟩ := q4 k hlt
      injection e with e1 e2 e3
      subst hab
      subst e1
      clear e2 e3 q4
      obtain ⟨u, hu⟩ : ∃ u, vs[k]? = some u := ⟨_, List.getElem?_eq_getElem hlt⟩
      have hck := hc k u hu
      have hru := HVR.out k u hu
      have hkl : k < ls.length := by have := HVL.out; omega
      have hmem : ls[k]! ∈ ls := by rw [getElem!_pos ls k hkl]; exact List.getElem_mem hkl
      have hml := HLM.out _ hmem
      have htk : (ls.take (k + 1)).flatten = (ls.take k).flatten ++ ls[k]! := by
        rw [List.take_succ_eq_append_getElem hkl, List.flatten_append, getElem!_pos ls k hkl]; simp
      have hll : (macCross key 54 ++ (ls.take k).flatten).length ≤ 1000000000000000 := by
        have h1 : ls.flatten = (ls.take k).flatten ++ (ls.drop k).flatten := by rw [← List.flatten_append, List.take_append_drop]
        have h2 := HLS.out
        rw [h1, List.length_append] at h2
        rw [List.length_append, macCross_length]
        omega
      have hoff : ls[k]! ≠ [] → Off (One E) u := fun h => Row.offNew hru (fun i h => by have h1 : i = E := h; have := HEW.out; omega) h
      have HX := Lib.hid (And.intro (hru.non HFW.out) (And.intro hoff (And.intro hll (And.intro hml htk))))
      have z0 : (0 : Int) ≤ (k : Int) := by omega
      have z1 : (k : Int) < (vs.length : Int) := by omega
      clear hc hu hru hmem hml htk hll hoff
      go_wp2_with (go_at_call 70; refine (write_any E _ _ _ _ HST.out HX.out.1 HX.out.2.1 HX.out.2.2.1 HX.out.2.2.2.1 HTB.out.1 HTB.out.2 HKS.out.1 HKS.out.2).mono ?_; rintro e w9 ⟨rfl, h9, hf9⟩)
      go_roundw
      case rel => exact ⟨k + 1, by omega, by go_num, by rw [HX.out.2.2.2.2, ← List.append_assoc]; exact h9, HFR.out.trans hf9 (fun _ h => h) (fun _ h => .inl h)⟩
      case measure => simp [intOf]; omega
    · have hkn : k = vs.length := by omega
      have hft : (ls.take k).flatten = ls.flatten := by rw [List.take_of_length_le (by have := HVL.out; omega)]
      have hge : decide ((k : Int) < (vs.length : Int)) = false := by simp; omega
      have hst2 : StL wr E (macCross key 54 ++ ls.flatten) := by rw [← hft]; exact HST.out
      have hlb : (macCross key 54 ++ ls.flatten).length ≤ 1000000000000000 := by have := HLS.out; rw [List.length_append, macCross_length]; omega
      have HY := Lib.hid (And.intro hst2 hlb)
      clear hkn hft hst2 hlb
      go_wp2_with fail
      refine (ssum_any E _ _ HY.out.1 HY.out.2 HTB.out.1 HTB.out.2).mono ?_
      rintro e w7 ⟨rfl, hf7⟩
      have hDL : (sha (macCross key 54 ++ ls.flatten)).length = 32 := sha_length _
      obtain ⟨D, hD⟩ : ∃ D, D = sha (macCross key 54 ++ ls.flatten) := ⟨_, rfl⟩
      rw [← hD] at hDL ⊢
      have HD := Lib.hid (And.intro hD hDL)
      have HF7 := Lib.hid hf7
      clear hD hDL hf7
      go_wp2_with ((with_reducible show wpList _ _ _ (({ op := .alloc _, .. } : Oper) :: _) _ _); refine wpList_var rfl rfl 42 9 (.tmp 28) rfl rfl rfl rfl _ (bs D) HZV.out (by rw [bs_length, bs_length, HD.out.2]; rfl) (by rw [bs_length, HD.out.2]; exact HID.out) (bs_one _) (by simp) (fun _ => rfl) ?_)
      intro w8 hb8 hf8 hs8
      simp only [List.set_cons_succ, List.set_cons_zero]
      obtain ⟨Y, hY⟩ : ∃ Y, Y = w7.heap.size := ⟨_, rfl⟩
      rw [← hY] at hb8 ⊢
      have HB8 := Lib.hid hb8
      have HF8 := Lib.hid hf8
      have HY8 := Lib.hid (And.intro hY hs8)
      clear hb8 hf8 hs8 hY
      have hGE : ¬ G = E := by have h1 := HE.out; have h2 := HG.out; omega
      have hRE : ¬ R = E := by have h1 := HE.out; have h2 := HG.out; have h3 := HR.out; have h4 := HF1.out.size; have h5 := HF2.out.size; have h6 := Blk.lt HD1.out; omega
      have hGR : ¬ G = R := by have h2 := HG.out; have h5 := HF2.out.size; have h6 := Blk.lt HD1.out; omega
      have hbG : Blk w8 G 107 (bs M) := (((HB3.out.non (HF4.out.non HF5.out)).frame HFR.out hGE).non HF7.out).non HF8.out
      have hbR : DB w8 R zero32 := ((HD1.out.frame (HF3.out.non (HF4.out.non HF5.out)) (fun h => h)).frame HFR.out hRE).frame (HF7.out.non HF8.out) (fun h => h)
      have hfw8 : Fr Non w w8 := HFW.out.non (HF7.out.non HF8.out)
      have HGG := Lib.hid (And.intro hbG (And.intro hbR hfw8))
      have HNE := Lib.hid (And.intro hGE hRE)
      have hS0 : (fun w' : World => w'.rangeAt G 0 (bs M)) w8.drew := hbG.range 0 _ (fun j v hj => by simpa using hj)
      clear hGE hRE hbG hbR hfw8
      go_upto_region 10 with (fail)
      have hu47 := Tryd.underlying107
      have hi47 := HLM2.out
      have HGR := Lib.hid hGR
      clear hGR
      refine wp_region_held_drew (S := fun w' => w'.rangeAt G 0 (bs M)) (by kernel_rfl) hS0 (fun hHeld => ?_)
      refine wpAnyH_takeL (i := 0) 29 (v := .agg (bs M).toArray) rfl rfl (by kernel_rfl) (by kernel_rfl) (by kernel_rfl) (fun _ _ _ h => h) (by assumption) (yieldsIf_load_mid (by rfl) _ _ rfl G 0 rfl (bs M) _ (fun w h => h) hu47 rfl hi47) ?_
      simp only [List.set_cons_zero, List.set_cons_succ]
      refine wpAnyH_takeL (i := 2) 31 (v := ?_) rfl rfl (by kernel_rfl) (by kernel_rfl) (by kernel_rfl) (fun _ _ _ h => h) (by assumption) (Or.inl ⟨by rfl, ?_⟩) ?_
      rotate_left
      · intro w hSw; go_simp; with_reducible rfl
      simp only [List.set_cons_zero, List.set_cons_succ]
      refine wpAnyH_ready (rs := [1]) (by kernel_rfl) (by simp) ?_
      refine AllReadyH.cons (o := ⟨some 30, _, _, _, _, _⟩) rfl (fun K hK => ?_) AllReadyH.nil
      go_simp
      go_wp2_with (go_at_call 71; refine (mixed_any M 92 _ HM.out.2).mono ?_; rintro e w9 ⟨Z, rfl, hZ, hbZ, hf9⟩)
      have hfn9 : Fr Non w8 w9 := (Fr.drew w8).non hf9
      have hcr : M.map (· ^^^ 92) = macCross key 92 := by rw [macCross, HM.out.1]
      rw [hcr] at hbZ
      have HZ := Lib.hid hZ
      have HBZ := Lib.hid hbZ
      have HF9 := Lib.hid hfn9
      clear hcr hbZ hfn9 hf9 hZ
      refine hK.out _ _ ((HGG.out.1.non HF9.out).range 0 _ (fun j v hj => by simpa using hj)) (fun hHeld => ?_)
      clear hK K
      refine wpAnyH_ready (rs := [3]) (by kernel_rfl) (by simp) ?_
      refine AllReadyH.cons (o := ⟨some 32, _, _, _, _, _⟩) rfl (fun K hK => ?_) AllReadyH.nil
      go_simp
      refine hK.out _ _ (((HGG.out.1.non HF9.out).non (Fr.alloc _ _)).range 0 _ (fun j v hj => by simpa using hj)) (fun hHeld => ?_)
      clear hK K
      refine wpAnyH_ready (rs := [4]) (by kernel_rfl) (by simp) ?_
      refine AllReadyH.cons (o := ⟨some 33, _, _, _, _, _⟩) rfl (fun K hK => ?_) AllReadyH.nil
      go_simp
      have hrz : Row w9 (.slice (some ⟨Z, 0, none⟩) 64 64) (bs (macCross key 92)) := by
        have h := HBZ.out.row 0 64 (bs (macCross key 92)) (by rw [bs_length, macCross_length]; omega) (by unfold maxLen; omega) (fun j v hj => by rw [Nat.zero_add]; exact hj)
        rw [bs_length, macCross_length] at h
        exact h
      have hry : Row w9 (.slice (some ⟨Y, 0, none⟩) 32 32) (bs D) := by
        have h := (HB8.out.non HF9.out).row 0 32 (bs D) (by rw [bs_length, HD.out.2]; omega) (by unfold maxLen; omega) (fun j v hj => by rw [Nat.zero_add]; exact hj)
        rw [bs_length, HD.out.2] at h
        exact h
      have HRZ := Lib.hid (And.intro hrz hry)
      have HT9 := Lib.hid ((HT.out.non HGG.out.2.2).non HF9.out)
      clear hrz hry
      go_wp2_with (go_at_call 73; refine (psum_any _ [macCross key 92, D] _ (Rows2.built (n := 2) (us := [.slice (some ⟨Z, 0, none⟩) 64 64, .slice (some ⟨Y, 0, none⟩) 32 32]) rfl rfl (by decide) rfl (all2 HRZ.out.1 HRZ.out.2)) (by simp [macCross_length, HD.out.2]) (by simp [macCross_length, HD.out.2]) (HT9.out.non (Fr.alloc _ _)).1 (HT9.out.non (Fr.alloc _ _)).2).mono ?_; rintro e w10 ⟨rfl, hf10⟩)
      have hF10 : Fr Non w8 w10 := HF9.out.non ((Fr.alloc _ _).non hf10)
      have hSL : (sha (macCross key 92 ++ D)).length = 32 := sha_length _
      have hSE : sha (macCross key 92 ++ D) = macSum key ls.flatten := by rw [HD.out.1]; rfl
      obtain ⟨F, hF⟩ : ∃ F, F = sha (macCross key 92 ++ D) := ⟨_, rfl⟩
      rw [← hF] at hSL hSE ⊢
      have HFS := Lib.hid (And.intro hSL hSE)
      have HF10 := Lib.hid hF10
      clear hf10 hF10 hSL hSE hF
      refine hK.out _ _ ((HGG.out.1.non HF10.out).range 0 _ (fun j v hj => by simpa using hj)) (fun hHeld => ?_)
      clear hK K
      refine wpAnyH_ready (rs := [5]) (by kernel_rfl) (by simp) ?_
      refine AllReadyH.cons (o := ⟨none, .store 42 (.tmp 4) (.tmp 33), _, _, _, none⟩) rfl (fun K hK => ?_) AllReadyH.nil
      rw [if_pos (by rfl)]
      have hb32 : (bs F).length = 32 := by rw [bs_length, HFS.out.1]
      have hR10 : DB w10 R zero32 := HGG.out.2.1.frame HF10.out (fun h => h)
      have hth : w10.there R 0 (bs F).toArray.size := by rw [List.size_toArray, hb32]; exact hR10.there
      have hinfo : (Tryd.prog.info? 42).map (·.size) = some (bs F).toArray.size := by rw [List.size_toArray, hb32]; exact HID.out
      have hinfo2 : (Tryd.prog.info? 42).map (·.size) = some (bs F).length := by rw [hb32]; exact HID.out
      have hrv := run_loadVar_mid (P := Tryd.prog) (w10.setCells R 0 (bs F).toArray.toList) R 0 42 (bs F) _ (by have := World.rangeAt_setCells_same w10 R 0 (bs F) (by rw [hb32]; exact hR10.there); simpa using this) Tryd.underlying42 rfl hinfo2
      have hfs := Fr.setCells' R (bs F).toArray.toList w10 0
      refine wp_store_mid 42 (.tmp 4) (.tmp 33) rfl R 0 (bs F).toArray rfl rfl hth hinfo (all_oneCell_toArray (bs_one F)) ?_
      obtain ⟨w11, hw11⟩ : ∃ w11, w11 = w10.setCells R 0 (bs F).toArray.toList := ⟨_, rfl⟩
      rw [← hw11] at hrv hfs ⊢
      have HRV := Lib.hid (And.intro hrv hfs)
      clear hb32 hR10 hth hinfo hinfo2 hrv hfs hw11
      simp only [Act.put]
      refine hK.out _ _ (((HGG.out.1.non HF10.out).frame HRV.out.2 HGR.out).range 0 _ (fun j v hj => by simpa using hj)) (fun hHeld => ?_)
      clear hK K
      refine wpAnyH_done (by kernel_rfl) ?_ _
      repeat (first | go_skip | go_step)
      refine bodyPost_ret (v := .agg (bs F).toArray) (by have h := HRV.out.1; simp [results, Tryd.results56, asAddr] at h ⊢; exact h) rfl ⟨by rw [HFS.out.2], ?_⟩
      have hx := HR.out
      exact (HGG.out.2.2.non HF10.out).new HRV.out.2 (fun i h => by have h1 : i = R := h; omega)

end Go.Proofs.YtpmkcjgndljhgaaDoor
