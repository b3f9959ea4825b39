/- the document's keyed digests: Sum -/
import Derived.Test.YtpmkcjgndljhgaaDoorGRefSha

namespace Go.Proofs.YtpmkcjgndljhgaaDoor
open Go.ChangeShapes Go.WideShapes Go.ChangeAt Go.RowKit

set_option maxRecDepth 100000 in
set_option maxHeartbeats 1000000 in
theorem macRef_any (v u : Value) (key b : List UInt8) (w : World) (hv : Row w v (bs key)) (hl : key.length ≤ 140737488351232) (hu : Row w u (bs b)) (hb : b.length ≤ 140737488354000) (hK : KAt w 2) :
    Calls Tryd.prog 44 #[v, u] w fun e w' => e = .returned (.agg (bs (macSum key b)).toArray) ∧ Fr Non w w' := by
  obtain ⟨i0, hi⟩ := info_parts Tryd.info5
  have HI := Lib.hid hi
  have HV := Lib.hid hv
  have HU := Lib.hid hu
  have HK := Lib.hid hK
  have hzv : ∀ w, (zeroValue 42).run Tryd.prog w = .ok (.agg (bs zero32).toArray) w := fun _ => by kernel_rfl
  have HZV := Lib.hid hzv
  have hif : (Tryd.prog.info? 42).map (·.size) = some 32 := by kernel_rfl
  have HIF := Lib.hid hif
  clear hi hv hu hK hzv hif
  go_enter Tryd.func44, Tryd.ntmps44
  go_upto_region 1 with (fail)
  have hd0 : DB (w.alloc (.cells #[.int .u8 0, .int .u8 0, .int .u8 0, .int .u8 0, .int .u8 0, .int .u8 0, .int .u8 0, .int .u8 0, .int .u8 0, .int .u8 0, .int .u8 0, .int .u8 0, .int .u8 0, .int .u8 0, .int .u8 0, .int .u8 0, .int .u8 0, .int .u8 0, .int .u8 0, .int .u8 0, .int .u8 0, .int .u8 0, .int .u8 0, .int .u8 0, .int .u8 0, .int .u8 0, .int .u8 0, .int .u8 0, .int .u8 0, .int .u8 0, .int .u8 0, .int .u8 0] 42)) w.heap.size zero32 := DB.new w
  have hf0 := Fr.alloc w (.cells #[.int .u8 0, .int .u8 0, .int .u8 0, .int .u8 0, .int .u8 0, .int .u8 0, .int .u8 0, .int .u8 0, .int .u8 0, .int .u8 0, .int .u8 0, .int .u8 0, .int .u8 0, .int .u8 0, .int .u8 0, .int .u8 0, .int .u8 0, .int .u8 0, .int .u8 0, .int .u8 0, .int .u8 0, .int .u8 0, .int .u8 0, .int .u8 0, .int .u8 0, .int .u8 0, .int .u8 0, .int .u8 0, .int .u8 0, .int .u8 0, .int .u8 0, .int .u8 0] 42)
  generalize w.alloc (.cells #[.int .u8 0, .int .u8 0, .int .u8 0, .int .u8 0, .int .u8 0, .int .u8 0, .int .u8 0, .int .u8 0, .int .u8 0, .int .u8 0, .int .u8 0, .int .u8 0, .int .u8 0, .int .u8 0, .int .u8 0, .int .u8 0, .int .u8 0, .int .u8 0, .int .u8 0, .int .u8 0, .int .u8 0, .int .u8 0, .int .u8 0, .int .u8 0, .int .u8 0, .int .u8 0, .int .u8 0, .int .u8 0, .int .u8 0, .int .u8 0, .int .u8 0, .int .u8 0] 42) = w0 at hd0 hf0 ⊢
  obtain ⟨R, hR⟩ : ∃ R, R = w.heap.size := ⟨_, rfl⟩
  rw [← hR] at hd0 ⊢
  have HR := Lib.hid hR
  have hR0 : R < w0.heap.size := Blk.lt hd0
  have HD0 := Lib.hid hd0
  have HF0 := Lib.hid hf0
  clear hR hd0 hf0
  go_wp2_with fail
  refine (crossed_any v key 54 w0 (HV.out.non HF0.out) hl (HK.out.frame HF0.out (fun h => h))).mono ?_
  rintro e w1 ⟨v1, rfl, ho1, hf1⟩
  have HO1 := Lib.hid ho1
  have HF1 := Lib.hid hf1
  clear ho1 hf1
  go_wp2_with (at_builtin; refine wpList_appRow _ rfl (.tmp 10) (.tmp 11) 33 rfl w0.heap.size 5 i0 (.int .u8 0) 1 Tryd.underlying33 HI.out rfl _ _ rfl HO1.out _ (bs b) rfl ((HU.out.non HF0.out).non HF1.out) (bs_one b) ⟨by rw [bs_length, bs_length, macCross_length]; omega, by omega⟩ HF1.out.size ?_; intro v2 w2 hown hfr hmv; clear hmv)
  have HF2 : Hid (Fr Non w0 w2) := Lib.hid (HF1.out.new hfr (fun i h => (HO1.out.lt i h).1))
  have HO2 : Hid (Row w2 v2 (bs (macCross key 54 ++ b))) := Lib.hid (by rw [bs_append]; exact hown.row)
  have hl2 : (macCross key 54 ++ b).length ≤ 140737488355000 := by rw [List.length_append, macCross_length]; omega
  have HL2 := Lib.hid hl2
  have HK2 : Hid (KAt w2 2) := Lib.hid ((HK.out.frame HF0.out (fun h => h)).frame HF2.out (fun h => h))
  clear hown hfr hl2 HO1 HF1
  refine (refSum_big _ _ w2 HO2.out HL2.out HK2.out).mono ?_
  rintro e w3 ⟨rfl, hf3⟩
  have HF3 := Lib.hid (HF2.out.non hf3)
  clear hf3
  have HIN : Hid ((sha (macCross key 54 ++ b)).length = 32 ∧ macSum key b = sha (macCross key 92 ++ sha (macCross key 54 ++ b))) := Lib.hid ⟨sha_length _, rfl⟩
  generalize sha (macCross key 54 ++ b) = D at HIN
  go_wp2_with (first | (refine wpList_var rfl rfl 42 6 (.tmp 14) rfl rfl rfl rfl _ (bs D) HZV.out (by rw [bs_length, bs_length, HIN.out.1]; rfl) (by rw [bs_length, HIN.out.1]; exact HIF.out) (bs_one _) (by simp) (fun _ => rfl) ?_; intro w4 hb4 hf4 hs4; simp only [List.set_cons_succ, List.set_cons_zero]))
  obtain ⟨X, hX⟩ : ∃ X, X = w3.heap.size := ⟨_, rfl⟩
  rw [← hX] at hb4 ⊢
  have HF4 := Lib.hid (HF3.out.non hf4)
  have HB4 := Lib.hid hb4
  clear hb4 hf4 hs4 hX HO2 HL2 HK2
  refine (crossed_any v key 92 w4 ((HV.out.non HF0.out).non HF4.out) hl ((HK.out.frame HF0.out (fun h => h)).frame HF4.out (fun h => h))).mono ?_
  rintro e w5 ⟨v5, rfl, ho5, hf5⟩
  have HRD : Hid (Row w5 (.slice (some ⟨X, 0, none⟩) 32 32) (bs D)) := Lib.hid (by
    have h := (HB4.out.non hf5).row 0 32 (bs D) (by rw [bs_length, HIN.out.1]; omega) (by unfold maxLen; omega) (fun j v hj => by rw [Nat.zero_add]; exact hj)
    rw [bs_length, HIN.out.1] at h
    exact h)
  have HO5 := Lib.hid ho5
  have HF5 := Lib.hid hf5
  clear ho5 hf5
  go_wp2_with (at_builtin; refine wpList_appRow _ rfl (.tmp 17) (.tmp 18) 33 rfl w4.heap.size 5 i0 (.int .u8 0) 1 Tryd.underlying33 HI.out rfl _ _ rfl HO5.out _ (bs D) rfl HRD.out (bs_one D) ⟨by rw [bs_length, bs_length, macCross_length, HIN.out.1]; omega, by omega⟩ HF5.out.size ?_; intro v6 w6 hown hfr hmv; clear hmv)
  have HF6 : Hid (Fr Non w0 w6) := Lib.hid ((HF4.out.non HF5.out).new hfr (fun i h => Nat.le_trans HF4.out.size (HO5.out.lt i h).1))
  have HO6 : Hid (Row w6 v6 (bs (macCross key 92 ++ D))) := Lib.hid (by rw [bs_append]; exact hown.row)
  have HL6 : Hid ((macCross key 92 ++ D).length ≤ 140737488355000) := Lib.hid (by rw [List.length_append, macCross_length, HIN.out.1]; omega)
  clear hown hfr HO5 HF5 HRD HB4
  refine (refSum_big _ _ w6 HO6.out HL6.out ((HK.out.frame HF0.out (fun h => h)).frame HF6.out (fun h => h))).mono ?_
  rintro e w7 ⟨rfl, hf7⟩
  rw [← HIN.out.2]
  have hd7 := (HD0.out.frame HF6.out (fun h => h)).frame hf7 (fun h => h)
  have hone := bs_one (macSum key b)
  have hb32 : (bs (macSum key b)).length = 32 := by rw [bs_length, macSum_length]
  generalize hys : bs (macSum key b) = ys at hone hb32 ⊢
  have hinfo : (Tryd.prog.info? 42).map (·.size) = some ys.toArray.size := by rw [List.size_toArray, hb32]; exact HIF.out
  have hinfo2 : (Tryd.prog.info? 42).map (·.size) = some ys.length := by rw [hb32]; exact HIF.out
  have hth : w7.there R 0 ys.toArray.size := by rw [List.size_toArray, hb32]; exact hd7.there
  have hrv := run_loadVar_mid (P := Tryd.prog) (w7.setCells R 0 ys.toArray.toList) R 0 42 ys _ (by have := World.rangeAt_setCells_same w7 R 0 ys (by rw [hb32]; exact hd7.there); simpa using this) Tryd.underlying42 rfl hinfo2
  have hfs := Fr.setCells' R ys.toArray.toList w7 0
  have HIN2 := Lib.hid (And.intro hinfo (And.intro hth (And.intro hrv (And.intro hfs hys))))
  have HON := Lib.hid hone
  have HF7 := Lib.hid (HF6.out.non hf7)
  clear hinfo hinfo2 hth hrv hfs hys hone hb32 hd7 hf7
  go_wp2_with (refine wpList_store_mid rfl 42 (.tmp 4) (.tmp 21) rfl R 0 ys.toArray rfl rfl HIN2.out.2.1 HIN2.out.1 (all_oneCell_toArray HON.out) ?_)
  refine bodyPost_ret (v := .agg ys.toArray) (by have h := HIN2.out.2.2.1; simp [results, Tryd.results44, asAddr, Act.put] at h ⊢; exact h) rfl ⟨by rw [← HIN2.out.2.2.2.2], ?_⟩
  have hx := HR.out
  exact (HF0.out.non HF7.out).new HIN2.out.2.2.2.1 (fun i h => by have h1 : i = R := h; omega)
end Go.Proofs.YtpmkcjgndljhgaaDoor
