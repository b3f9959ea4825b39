/- package mac: brought -/
import Derived.Test.YtajknmapggkmnaaDoorMacOpA
import Derived.Test.YtajknmapggkmnaaDoorMacRefD
namespace Go.Proofs.YtajknmapggkmnaaDoor
open Go.ChangeShapes Go.WideShapes Go.ChangeAt Go.RowKit

/-- the tables lie as they were laid -/
def ShaT (w : World) : Prop := KAt w 2 ∧ StAt w 0
theorem ShaT.non {w w' : World} (h : ShaT w) (f : Fr Non w w') : ShaT w' := ⟨h.1.frame f (fun h => h), h.2.frame f (fun h => h)⟩
theorem zero64_length : zero64.length = 64 := by unfold zero64; simp
theorem splice_key (k : List UInt8) (hk : k.length ≤ 64) : splice (bs zero64) 0 ((bs k).take 64) = bs (k ++ List.replicate (64 - k.length) 0) := by
  have h1 : (bs k).take 64 = bs k := List.take_of_length_le (by rw [bs_length]; exact hk)
  rw [h1]
  unfold splice zero64 bs
  rw [List.take_zero, List.nil_append, Nat.zero_add, List.map_replicate, List.drop_replicate, List.map_append, List.map_replicate, List.length_map]

set_option maxRecDepth 100000 in
set_option maxHeartbeats 1000000 in
theorem brought_any (v : Value) (key : List UInt8) (w : World) (hv : Row w v (bs key)) (hl : key.length ≤ 140737488351232) (hT : ShaT w) :
    Calls Tryd.prog 23 #[v] w fun e w' => e = .returned (.agg (bs (macKey key)).toArray) ∧ Fr Non w w' := by
  obtain ⟨a, c, rfl, -⟩ := id hv
  rw [bs_length] at hv ⊢
  have HV := Lib.hid hv
  have HT := Lib.hid hT
  have hzk : ∀ w, (zeroValue 47).run Tryd.prog w = .ok (.agg (bs zero64).toArray) w := fun _ => by kernel_rfl
  have HZK := Lib.hid hzk
  have hif : (Tryd.prog.info? 47).map (·.size) = some 64 := by kernel_rfl
  have HIF := Lib.hid hif
  have hzv : ∀ w, (zeroValue 25).run Tryd.prog w = .ok (.agg (bs zero32).toArray) w := fun _ => by kernel_rfl
  have HZV := Lib.hid hzv
  have hid : (Tryd.prog.info? 25).map (·.size) = some 32 := by kernel_rfl
  have HID := Lib.hid hid
  have hlenv := run_lenRow (P := Tryd.prog) hv 22 5 Tryd.underlying22
  rw [bs_length] at hlenv
  clear hv hT hzk hif hzv hid
  go_enter Tryd.func23, Tryd.ntmps23
  go_wp2_with (first | (refine wpList_allocZ (o := ⟨some 2, _, _, _, _, none⟩) rfl 47 rfl _ HZK.out ?_))
  intro w1 hb1 hf1 hs1
  go_wp2_with (first | (refine wpList_allocZ (o := ⟨some 3, _, _, _, _, none⟩) rfl 47 rfl _ HZK.out ?_))
  intro w2 hb2 hf2 hs2
  obtain ⟨R, hR⟩ : ∃ R, R = w.heap.size := ⟨_, rfl⟩
  obtain ⟨G, hG⟩ : ∃ G, G = w.heap.size + 1 := ⟨_, rfl⟩
  rw [← hG] at hb2
  rw [← hR] at hb1
  rw [← hG, ← hR]
  have HRG := Lib.hid (And.intro hR hG)
  have HR2 := Lib.hid (hb1.non hf2)
  have HG2 := Lib.hid hb2
  have HF2 := Lib.hid (hf1.non hf2)
  clear hb1 hb2 hf1 hf2 hs1 hs2 hR hG
  by_cases h64 : 64 < key.length
  case' pos =>
    have ht : (64 : Int) < (key.length : Int) := by omega
    go_wp2_with fail
    refine (psum_any _ [key] _ (Rows2.built (n := 1) (us := [.slice a key.length c]) rfl rfl (by decide) rfl (all1 (HV.out.non HF2.out))) (by simp; omega) (by simpa using hl) ((HT.out.non HF2.out).1.frame (Fr.alloc _ _) (fun h => h)) ((HT.out.non HF2.out).2.frame (Fr.alloc _ _) (fun h => h))).mono ?_
    rintro e w3 ⟨rfl, hf3⟩
    rw [show [key].flatten = key by simp]
    have HMK : Hid ((sha key).length = 32 ∧ macKey key = sha key ++ List.replicate (64 - (sha key).length) 0) := Lib.hid ⟨sha_length _, by unfold macKey; rw [if_pos h64]⟩
    generalize sha key = K at HMK
    have HF3 : Hid (Fr Non w2 w3) := Lib.hid ((Fr.alloc _ _).non hf3)
    clear hf3
    go_wp2_with (refine wpList_var rfl rfl 25 4 (.tmp 10) rfl rfl rfl rfl _ (bs K) HZV.out (by rw [bs_length, bs_length, HMK.out.1]; rfl) (by rw [bs_length, HMK.out.1]; exact HID.out) (bs_one _) (by simp) (fun _ => rfl) ?_)
    intro w4 hb4 hf4 hs4
    simp only [List.set_cons_succ, List.set_cons_zero]
    obtain ⟨X, hX⟩ : ∃ X, X = w3.heap.size := ⟨_, rfl⟩
    rw [← hX] at hb4 ⊢
    have HV4 : Hid (Row w4 (.slice (some ⟨X, 0, none⟩) 32 32) (bs K)) := Lib.hid (by
      have h := hb4.row 0 32 (bs K) (by rw [bs_length, HMK.out.1]; omega) (by unfold maxLen; omega) (fun j v hj => by rw [Nat.zero_add]; exact hj)
      rw [bs_length, HMK.out.1] at h
      exact h)
    have HF4 := Lib.hid (HF3.out.non hf4)
    have HKL : Hid (K.length ≤ 64 ∧ macKey key = K ++ List.replicate (64 - K.length) 0) := Lib.hid ⟨by rw [HMK.out.1]; omega, HMK.out.2⟩
    clear hb4 hf4 hs4 hX HF3 HMK h64
  case' neg =>
    have HMK : Hid (macKey key = key ++ List.replicate (64 - key.length) 0) := Lib.hid (by unfold macKey; rw [if_neg h64])
    have HV4 : Hid (Row w2 (.slice a key.length c) (bs key)) := Lib.hid (HV.out.non HF2.out)
    have HF4 : Hid (Fr Non w2 w2) := Lib.hid (Fr.refl _ _)
    have HKL : Hid (key.length ≤ 64 ∧ macKey key = key ++ List.replicate (64 - key.length) 0) := Lib.hid ⟨by omega, HMK.out⟩
    have hle : decide ((64 : Int) < (key.length : Int)) = false := by simp; omega
    clear HMK h64
  all_goals
    go_wp2_with ((with_reducible show wpList _ _ _ (({ op := .call { callee := .builtin .copy, .. }, .. } : Oper) :: _) _ _); refine wpList_copy_fr rfl (.tmp 12) (.tmp 13) 22 22 rfl 5 Tryd.underlying22 (by kernel_rfl) G 0 _ 47 (HG2.out.non HF4.out) 64 64 _ _ HV4.out rfl rfl (by rw [bs_length, zero64_length]; omega) (bs_one _) ?_)
    intro w5 hb5 hf5
    rw [splice_key _ HKL.out.1, ← HKL.out.2] at hb5
    have hml := macKey_length key
    obtain ⟨M, hM⟩ : ∃ M, M = macKey key := ⟨_, rfl⟩
    rw [← hM] at hb5 hml
    have HM := Lib.hid hM
    clear hM
    have hR5 : Blk w5 R 47 (bs zero64) := (HR2.out.non HF4.out).frame hf5 (fun h => by have h1 : R = G := h; have := HRG.out; omega)
    have hf5w : Fr Non w w5 := (HF2.out.non HF4.out).new hf5 (fun i h => by have h1 : i = G := h; have := HRG.out; omega)
    have hone := bs_one M
    have hb64 : (bs M).length = 64 := by rw [bs_length, hml]
    have hinfo : (Tryd.prog.info? 47).map (·.size) = some (bs M).toArray.size := by rw [List.size_toArray, hb64]; exact HIF.out
    have hinfo2 : (Tryd.prog.info? 47).map (·.size) = some (bs M).length := by rw [hb64]; exact HIF.out
    have hth2 := hR5.there 0 (bs M).length (by rw [hb64, bs_length, zero64_length]; omega)
    have hth : w5.there R 0 (bs M).toArray.size := by rw [List.size_toArray]; exact hth2
    have hrv := run_loadVar_mid (P := Tryd.prog) (w5.setCells R 0 (bs M).toArray.toList) R 0 47 (bs M) _ (by have := World.rangeAt_setCells_same w5 R 0 (bs M) hth2; simpa using this) Tryd.underlying47 rfl hinfo2
    have hfs := Fr.setCells' R (bs M).toArray.toList w5 0
    obtain ⟨w6, hw6⟩ : ∃ w6, w6 = w5.setCells R 0 (bs M).toArray.toList := ⟨_, rfl⟩
    rw [← hw6] at hrv hfs
    have HW6 := Lib.hid hw6
    have HIN2 := Lib.hid (And.intro hinfo (And.intro hth (And.intro hrv (And.intro hfs hinfo2))))
    have HON := Lib.hid hone
    have HB5 := Lib.hid hb5
    have HF5 := Lib.hid hf5w
    clear hb5 hf5 hml hR5 hf5w hone hb64 hinfo hinfo2 hth2 hth hrv hfs hw6
    go_upto_region 6 with (fail)
    refine wp_region_lit ?_
    refine wpList_load_mid rfl 47 (.tmp 3) rfl G 0 rfl (bs M) _ (HB5.out.range 0 _ (fun j v hj => by simpa using hj)) Tryd.underlying47 rfl HIN2.out.2.2.2.2 ?_
    simp only [Act.put, List.setIfInBounds_toArray, List.set_cons_succ, List.set_cons_zero]
    refine wpList_store_mid rfl 47 (.tmp 2) (.tmp 15) rfl R 0 (bs M).toArray rfl rfl HIN2.out.2.1 HIN2.out.1 (all_oneCell_toArray HON.out) ?_
    rw [← HW6.out]
    repeat (first | go_skip | go_step)
    refine bodyPost_ret (v := .agg (bs M).toArray) (by have h := HIN2.out.2.2.1; simp [results, Tryd.results23, asAddr] at h ⊢; exact h) rfl ⟨by rw [HM.out], ?_⟩
    have hx := HRG.out
    exact HF5.out.new HIN2.out.2.2.2.1 (fun i h => by have h1 : i = R := h; omega)
end Go.Proofs.YtajknmapggkmnaaDoor
