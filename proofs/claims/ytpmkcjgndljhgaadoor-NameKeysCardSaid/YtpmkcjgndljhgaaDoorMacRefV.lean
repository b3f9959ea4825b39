/- the document's keyed digests: Derive -/
import Derived.Test.YtpmkcjgndljhgaaDoorMacRefC
import Derived.Lib.SlBytesConst

namespace Go.Proofs.YtpmkcjgndljhgaaDoor
open Go.ChangeShapes Go.WideShapes Go.ChangeAt Go.RowKit

/-- these eight letters -/
def macSalt : List UInt8 := [116, 97, 110, 116, 97, 108, 117, 115]
/-- P4.4 -/
def macDerive (root use : List UInt8) : List UInt8 := macExpand (macSum macSalt root) use 64
theorem macDerive_length (root use : List UInt8) : (macDerive root use).length = 64 := macExpand_length _ _ _
/-- the key as far as k places of each half -/
def keyL (d : List UInt8) (k : Nat) : List UInt8 := (d.take k ++ List.replicate (32 - k) 0) ++ ((d.drop 32).take k ++ List.replicate (32 - k) 0)
theorem keyL_length (d : List UInt8) (hd : d.length = 64) (k : Nat) (hk : k ≤ 32) : (keyL d k).length = 64 := by
  unfold keyL; simp; omega
theorem keyL_0 (d : List UInt8) : keyL d 0 = zero64 := by unfold keyL zero64; simp
theorem keyL_32 (d : List UInt8) (hd : d.length = 64) : keyL d 32 = d := by
  unfold keyL
  have h : (d.drop 32).take 32 = d.drop 32 := List.take_of_length_le (by simp; omega)
  rw [h]
  simp
theorem set_half (l : List UInt8) (k : Nat) (hk : k < 32) (hl : 32 ≤ l.length) : (l.take k ++ List.replicate (32 - k) 0).set k l[k]! = l.take (k + 1) ++ List.replicate (32 - (k + 1)) 0 := by
  have h1 : (l.take k).length = k := by rw [List.length_take]; omega
  rw [List.set_append_right _ _ (by omega), h1, Nat.sub_self, show 32 - k = (32 - (k + 1)) + 1 by omega, List.replicate_succ, List.set_cons_zero, List.take_succ_eq_append_getElem (by omega), getElem!_pos l k (by omega), List.append_assoc]
  rfl
theorem keyL_set (d : List UInt8) (hd : d.length = 64) (k : Nat) (hk : k < 32) : ((keyL d k).set k d[k]!).set (32 + k) d[32 + k]! = keyL d (k + 1) := by
  unfold keyL
  have h1 : (d.take k ++ List.replicate (32 - k) (0 : UInt8)).length = 32 := by rw [List.length_append, List.length_take, List.length_replicate]; omega
  have h2 : (d.take (k + 1) ++ List.replicate (32 - (k + 1)) (0 : UInt8)).length = 32 := by rw [List.length_append, List.length_take, List.length_replicate]; omega
  have h3 : d[32 + k]! = (d.drop 32)[k]! := by
    rw [getElem!_pos d (32 + k) (by omega), getElem!_pos (d.drop 32) k (by simp; omega), List.getElem_drop]
  rw [List.set_append_left _ _ (by omega), set_half d k hk (by omega), List.set_append_right _ _ (by omega), h2, show 32 + k - 32 = k by omega, h3, set_half (d.drop 32) k hk (by simp; omega)]

set_option maxRecDepth 100000 in
set_option maxHeartbeats 1000000 in
theorem deriveRef_any (u : Value) (root use : List UInt8) (w : World) (hr : root.length = 32) (hu : Row w u (bs use)) (hul : use.length ≤ 140737488353000) (hK : KAt w 2) :
    Calls Tryd.prog 35 #[.agg (bs root).toArray, u] w fun e w' => e = .returned (.agg (bs (macDerive root use)).toArray) ∧ Fr Non w w' := by
  have HR := Lib.hid hr
  have HU := Lib.hid hu
  have HK := Lib.hid hK
  have hzv : ∀ w, (zeroValue 42).run Tryd.prog w = .ok (.agg (bs zero32).toArray) w := fun _ => by kernel_rfl
  have HZV := Lib.hid hzv
  have hzk : ∀ w, (zeroValue 44).run Tryd.prog w = .ok (.agg (bs zero64).toArray) w := fun _ => by kernel_rfl
  have HZK := Lib.hid hzk
  have hif : (Tryd.prog.info? 42).map (·.size) = some 32 := by kernel_rfl
  have HIF := Lib.hid hif
  have hik : (Tryd.prog.info? 44).map (·.size) = some 64 := by kernel_rfl
  have HIK := Lib.hid hik
  have kc := fun (w : World) (C : Array Value) (n c : Nat) => Lib.run_convert_bytes_const (P := Tryd.prog) w 33 5 C n c Tryd.underlying33 Tryd.underlying5
  clear hr hu hK hzv hzk hif hik
  go_enter Tryd.func35, Tryd.ntmps35
  go_wp2_with (first | (refine wpList_allocZ (o := ⟨some 4, _, _, _, _, none⟩) rfl 44 rfl _ HZK.out ?_))
  intro w2 hb2 hf2 hs2
  have hb1 := (Blk.new w 42 (bs root)).non hf2
  obtain ⟨B, hB⟩ : ∃ B, B = w.heap.size := ⟨_, rfl⟩
  obtain ⟨R, hR⟩ : ∃ R, R = w.heap.size + 1 := ⟨_, rfl⟩
  rw [← hB] at hb1
  rw [← hR] at hb2
  rw [← hR, ← hB]
  have HBR := Lib.hid (And.intro hB hR)
  have HB1 := Lib.hid hb1
  have HB2 := Lib.hid hb2
  have HF2 : Hid (Fr Non w w2) := Lib.hid ((Fr.alloc w _).non hf2)
  clear hb1 hb2 hf2 hs2 hB hR
  have HRB : Hid (Row w2 (.slice (some ⟨B, 0, none⟩) 32 32) (bs root)) := Lib.hid (by
    have h := HB1.out.row 0 32 (bs root) (by rw [bs_length, HR.out]; omega) (by unfold maxLen; omega) (fun j v hj => by rw [Nat.zero_add]; exact hj)
    rw [bs_length, HR.out] at h
    exact h)
  go_wp2_with fail
  clear kc
  have hrs : Row (w2.alloc (.cells (bs macSalt).toArray 5 (8, 9))) (.slice (some ⟨w2.heap.size, 0, none⟩) 8 8) (bs macSalt) := Row.builtM w2 (bs macSalt) 5 8 (8, 9) rfl rfl (by decide)
  have hf3 : Fr Non w2 (w2.alloc (.cells (bs macSalt).toArray 5 (8, 9))) := Fr.alloc _ _
  change Calls _ _ _ (w2.alloc (.cells (bs macSalt).toArray 5 (8, 9))) _
  generalize w2.alloc (.cells (bs macSalt).toArray 5 (8, 9)) = w3 at hrs hf3 ⊢
  have HF3 : Hid (Fr Non w w3) := Lib.hid (HF2.out.non hf3)
  have HB3 : Hid (Blk w3 R 44 (bs zero64)) := Lib.hid (HB2.out.non hf3)
  refine (macRef_any _ _ macSalt root w3 hrs (by decide) (HRB.out.non hf3) (by rw [HR.out]; omega) (HK.out.frame HF3.out (fun h => h))).mono ?_
  rintro e w4 ⟨rfl, hf4⟩
  have HF4 := Lib.hid (HF3.out.non hf4)
  have HB4 := Lib.hid (HB3.out.non hf4)
  have HXL : Hid ((macSum macSalt root).length = 32 ∧ macDerive root use = macExpand (macSum macSalt root) use 64) := Lib.hid ⟨macSum_length _ _, rfl⟩
  generalize macSum macSalt root = D at HXL
  clear hrs hf3 hf4 HF3 HB3 HRB HB1 HB2 HF2
  go_wp2_with (refine wpList_var rfl rfl 42 5 (.tmp 13) rfl rfl rfl rfl _ (bs D) HZV.out (by rw [bs_length, bs_length, HXL.out.1]; rfl) (by rw [bs_length, HXL.out.1]; exact HIF.out) (bs_one _) (by simp) (fun _ => rfl) ?_)
  intro w5 hb5 hf5 hs5
  simp only [List.set_cons_succ, List.set_cons_zero]
  obtain ⟨X, hX⟩ : ∃ X, X = w4.heap.size := ⟨_, rfl⟩
  rw [← hX] at hb5 ⊢
  have HRD : Hid (Row w5 (.slice (some ⟨X, 0, none⟩) 32 32) (bs D)) := Lib.hid (by
    have h := hb5.row 0 32 (bs D) (by rw [bs_length, HXL.out.1]; omega) (by unfold maxLen; omega) (fun j v hj => by rw [Nat.zero_add]; exact hj)
    rw [bs_length, HXL.out.1] at h
    exact h)
  have HF5 := Lib.hid (HF4.out.non hf5)
  have HB5 := Lib.hid (HB4.out.non hf5)
  clear hb5 hf5 hs5 hX HF4 HB4
  go_wp2_with fail
  rw [show (64 : Int) = ((64 : Nat) : Int) from rfl]
  refine (expandRef_any _ u D use 64 w5 HRD.out (by rw [HXL.out.1]; omega) (HU.out.non HF5.out) hul (by omega) (HK.out.frame HF5.out (fun h => h))).mono ?_
  rintro e w6 ⟨v6, rfl, hr6, hf6⟩
  rw [← HXL.out.2] at hr6
  have hdl := macDerive_length root use
  obtain ⟨E, hE⟩ : ∃ E, E = macDerive root use := ⟨_, rfl⟩
  rw [← hE] at hr6 hdl
  have HE := Lib.hid hE
  have HDL := Lib.hid hdl
  have HR6 := Lib.hid hr6
  have HF6 := Lib.hid (HF5.out.non hf6)
  have HB6 := Lib.hid (HB5.out.non hf6)
  clear hr6 hf6 HB5 HF5 HRD hdl hE
  go_wp2_with (first | (refine wpList_allocZ (o := ⟨some 8, _, _, _, _, none⟩) rfl 44 rfl _ HZK.out ?_))
  intro w7 hb7 hf7 hs7
  obtain ⟨Y, hY⟩ : ∃ Y, Y = w6.heap.size := ⟨_, rfl⟩
  rw [← hY] at hb7 ⊢
  have hRY : ¬ R = Y := by have := HB6.out.lt; omega
  obtain ⟨a6, c6, rfl, _, _, _, h6⟩ := id HR6.out
  rw [bs_length, HDL.out] at h6 ⊢
  obtain ⟨b6, off6, rfl, _⟩ := h6 0 (by omega)
  have hb6 : b6 < w6.heap.size := by
    have h := HR6.out
    rw [bs_length] at h
    exact h.blockLt (fun h => by have := HDL.out; rw [h] at this; simp at this)
  have hbY : ¬ b6 = Y := by omega
  have hcell : ∀ j, j < 64 → w7.cell? ⟨b6, off6 + j, none⟩ = some (.int .u8 (E[j]!.toNat : Int)) := fun j hj => by
    have h := HR6.out
    rw [bs_length] at h
    obtain ⟨b', o', e, h2⟩ := h.bytes.2.2.2 j (by rw [HDL.out]; exact hj)
    injection e with e
    injection e with e1 e2
    subst e1 e2
    exact hf7.cell h2 (fun h => h)
  have HCELL := Lib.hid hcell
  have HB7 : Hid (Blk w7 Y 44 (bs (keyL E 0))) := Lib.hid (by rw [keyL_0]; exact hb7)
  have HF7 := Lib.hid (HF6.out.non hf7)
  have HR7 := Lib.hid (HB6.out.non hf7)
  have HY := Lib.hid (And.intro hY hb6)
  have hYw : w.heap.size ≤ Y := by have := HF6.out.size; omega
  have HYW := Lib.hid hYw
  clear h6 hb6 hcell hb7 hf7 hs7 hY HR6 HB6 HF6 hYw
  go_wp2_with fail
  go_loopw [9] (fun i wr => ∃ k : Nat, k ≤ 32 ∧ i = .int .i64 k ∧ Blk wr Y 44 (bs (keyL E k)) ∧ Fr (One Y) w7 wr) (fun i _ => 32 - (intOf i).toNat)
  case atStart => exact ⟨0, by omega, rfl, HB7.out, Fr.refl _ _⟩
  case round =>
    obtain ⟨k, hk, rfl, hb, hfr⟩ := hrel
    have HBk := Lib.hid hb
    have HFR := Lib.hid hfr
    clear hb hfr
    by_cases hlt : k < 32
    · have x0 := HFR.out.cell (HCELL.out k (by omega)) hbY
      have x1 := HFR.out.cell (HCELL.out (32 + k) (by omega)) hbY
      have hkl := keyL_length E HDL.out k hk
      obtain ⟨u0, d0, f0⟩ := HBk.out.has k (by rw [bs_length, hkl]; omega)
      obtain ⟨u1, d1, f1⟩ := HBk.out.has (32 + k) (by rw [bs_length, hkl]; omega)
      have HKS := Lib.hid (keyL_set E HDL.out k hlt)
      have z0 : (0 : Int) ≤ (k : Int) := by omega
      have z1 : (k : Int) < 32 := by omega
      have hYb : ¬ Y = b6 := fun h => hbY h.symm
      clear hkl
      generalize E[k]! = y0 at x0 HKS
      generalize E[32 + k]! = y1 at x1 HKS
      go_wp2
      go_roundw
      case rel =>
        have hs := (HBk.out.set k (.int .u8 (y0.toNat : Int))).set (32 + k) (.int .u8 (y1.toNat : Int))
        rw [bs_set, bs_set, HKS.out] at hs
        exact ⟨k + 1, by omega, by go_num, hs, (HFR.out.trans (Fr.setCell wr _ _) (fun _ h => h) (fun _ h => .inl h)).trans (Fr.setCell _ _ _) (fun _ h => h) (fun _ h => .inl h)⟩
      case measure => simp [intOf]; omega
    · have h32 : k = 32 := by omega
      have hb : Blk wr Y 44 (bs E) := by have h := HBk.out; rw [h32, keyL_32 E HDL.out] at h; exact h
      have hge : decide ((k : Int) < 32) = false := by simp; omega
      have hd7 := HR7.out.frame HFR.out hRY
      have hone := bs_one E
      have hb64 : (bs E).length = 64 := by rw [bs_length, HDL.out]
      have hinfo : (Tryd.prog.info? 44).map (·.size) = some (bs E).toArray.size := by rw [List.size_toArray, hb64]; exact HIK.out
      have hinfo2 : (Tryd.prog.info? 44).map (·.size) = some (bs E).length := by rw [hb64]; exact HIK.out
      have hth2 := hd7.there 0 (bs E).length (by rw [hb64, bs_length]; simp [zero64])
      have hth : wr.there R 0 (bs E).toArray.size := by rw [List.size_toArray]; exact hth2
      have hrv := run_loadVar_mid (P := Tryd.prog) (wr.setCells R 0 (bs E).toArray.toList) R 0 44 (bs E) _ (by have := World.rangeAt_setCells_same wr R 0 (bs E) hth2; simpa using this) Tryd.underlying44 rfl hinfo2
      have hfs := Fr.setCells' R (bs E).toArray.toList wr 0
      have HIN2 := Lib.hid (And.intro hinfo (And.intro hth (And.intro hrv (And.intro hfs hinfo2))))
      have HON := Lib.hid hone
      have HBE := Lib.hid hb
      clear hb hd7 hone hb64 hinfo hinfo2 hth hth2 hrv hfs h32
      go_wp2_with (first | (refine wpList_load_mid rfl 44 (.tmp 8) rfl Y 0 rfl (bs E) _ (HBE.out.range 0 _ (fun j v hj => by simpa using hj)) Tryd.underlying44 rfl HIN2.out.2.2.2.2 ?_) | (refine wpList_store_mid rfl 44 (.tmp 4) (.tmp 39) rfl R 0 (bs E).toArray rfl rfl HIN2.out.2.1 HIN2.out.1 (all_oneCell_toArray HON.out) ?_))
      refine bodyPost_ret (v := .agg (bs E).toArray) (by have h := HIN2.out.2.2.1; simp [results, Tryd.results35, asAddr] at h ⊢; exact h) rfl ⟨by rw [HE.out], ?_⟩
      have hx := HBR.out
      have hy := HYW.out
      exact (HF7.out.new HFR.out (fun i h => by have h1 : i = Y := h; omega)).new HIN2.out.2.2.2.1 (fun i h => by have h1 : i = R := h; omega)
end Go.Proofs.YtpmkcjgndljhgaaDoor
