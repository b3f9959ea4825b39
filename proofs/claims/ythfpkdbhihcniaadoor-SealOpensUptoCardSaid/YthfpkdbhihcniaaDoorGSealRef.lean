/- GSealRef: RefFix, SealRefA, SealRefB, SealRefC, one behind the other. -/
import Derived.Test.YthfpkdbhihcniaaDoorGround
import Derived.Test.YthfpkdbhihcniaaDoorGRefSha
import Derived.Test.YthfpkdbhihcniaaDoorGRefStrB

/- the document's answers of layer 1: a number's bytes -/
namespace Go.Proofs.YthfpkdbhihcniaaDoor
open Go.ChangeShapes Go.WideShapes Go.ChangeAt Go.RowKit

set_option maxRecDepth 100000 in
theorem refFix_any (n : Nat) (m : Int) (w : World) (hn : n < 18446744073709551616) :
    Calls Tryd.prog 20 #[.int .u64 n, .int .i64 m] w fun e w' => ∃ v, e = .returned v ∧ Own w' w.heap.size 5 v (bs (fixF (clamp8 m) n)) ∧ Fr Non w w' := by
  obtain ⟨i0, hi⟩ := info_parts Tryd.info5
  have hc : (clamp8 m = 0 ∧ m ≤ 0) ∨ (clamp8 m = 8 ∧ 8 ≤ m) ∨ (m = clamp8 m) := by unfold clamp8; split <;> (try split) <;> omega
  obtain ⟨q, hq⟩ : ∃ q, q = clamp8 m := ⟨_, rfl⟩
  rw [← hq] at hc ⊢
  have hq8 : q ≤ 8 := by rw [hq]; unfold clamp8; split <;> (try split) <;> omega
  have HQ := Lib.hid hq
  clear hq
  have HN := Lib.hid hn
  clear hn
  go_enter Tryd.func20, Tryd.ntmps20
  go_wp2_with fail
  go_loopw [0, 5, 6] (fun n' v i wr => ∃ (j p r : Nat) (done : List UInt8), n' = .int .u64 r ∧ r < 18446744073709551616 ∧ i = .int .i64 j ∧ j + p = q ∧ fixF q n = done ++ fixF p r ∧ done.length = j ∧ Own wr w.heap.size 5 v (bs done) ∧ Fr Non w wr) (fun _ _ i _ => 8 - (intOf i).toNat)
  case atStart => exact ⟨0, q, n, [], rfl, HN.out, rfl, Nat.zero_add _, rfl, rfl, Own.nil _ _ _, Fr.refl _ _⟩
  case round =>
    obtain ⟨j, p, r, done, rfl, hr64, rfl, hjp, hfx, hdl, hown, hfr⟩ := hrel
    have hjk : j ≤ q := by omega
    have HJ := Lib.hid hjp
    have HX := Lib.hid hfx
    have HD := Lib.hid hdl
    have HC := Lib.hid hc
    clear hjp hfx hdl hc
    by_cases hlt : j < q
    · have hjm : (j : Int) < m := by have := HC.out; omega
      have hj8 : (j : Int) < 8 := by omega
      go_wp2_with (at_builtin; refine wpList_push _ rfl (.tmp 16) (.tmp 20) 27 rfl w.heap.size 5 i0 (.int .u8 0) 1 Tryd.underlying27 hi rfl _ _ rfl hown _ _ rfl rfl ?cA hfr.size ?_)
      case cA => have := HD.out; rw [bs_length]; omega
      intro v2 w2 hown2 hfr2 hmv2
      go_wp2
      go_roundw
      case rel =>
        have hjp := HJ.out
        match p, hjp with
        | 0, hjp => omega
        | p + 1, hjp =>
          refine ⟨j + 1, p, r / 256, done ++ [UInt8.ofNat (r % 256)], by go_num, by omega, by go_num, by omega, ?_, by simp [HD.out], ?_, hfr.new hfr2 (fun k hk => (Own.lt hown k hk).1)⟩
          · rw [HX.out]; simp [fixF]
          · have e : bs (done ++ [UInt8.ofNat (r % 256)]) = bs done ++ [Value.int .u8 ((r : Int) % 256)] := by
              rw [bs_append, bs_single, ofNat_toNat _ (by omega)]; rfl
            rw [e]; exact hown2
      case measure => simp [intOf]; omega
    · have hp : p = 0 := by have := HJ.out; omega
      subst hp
      have hjq : j = q := by omega
      have e : fixF q n = done := by have := HX.out; simpa [fixF] using this
      rw [← e] at hown
      rcases HC.out with ⟨h1, h2⟩ | ⟨h1, h2⟩ | h1
      · have hjm : ¬ (j : Int) < m := by omega
        clear hjq h1 h2 e
        go_wp2
        go_ret
        exact ⟨_, rfl, hown, hfr⟩
      · have hj8 : ¬ (j : Int) < 8 := by omega
        have hjm : (j : Int) < m ∨ (j : Int) = m := by omega
        clear hjq h1 h2 e
        rcases hjm with hjm | hjm
        · go_wp2
          go_ret
          exact ⟨_, rfl, hown, hfr⟩
        · have hjm' : ¬ (j : Int) < m := by omega
          clear hjm
          go_wp2
          go_ret
          exact ⟨_, rfl, hown, hfr⟩
      · have hjm : ¬ (j : Int) < m := by omega
        clear hjq h1 e
        go_wp2
        go_ret
        exact ⟨_, rfl, hown, hfr⟩
end Go.Proofs.YthfpkdbhihcniaaDoor

/- the document's sealed texts: the tag -/
namespace Go.Proofs.YthfpkdbhihcniaaDoor
open Go.ChangeShapes Go.WideShapes Go.ChangeAt Go.RowKit

/-- a key's cells -/
def keyCells (enc mac : List UInt8) : List Value := bs enc ++ bs mac
/-- a part of a block that holds bytes reads as a slice -/
theorem Blk.part {w : World} {B t : Nat} {L : List Value} (h : Blk w B t L) (o n : Nat) (l : List UInt8) (hl : l.length = n) (hm : n ≤ maxLen) (hx : ∀ j v, (bs l)[j]? = some v → L[o + j]? = some v) : Row w (.slice (some ⟨B, o, none⟩) n n) (bs l) := by
  have h := h.row o n (bs l) (by rw [bs_length]; omega) hm hx
  rwa [bs_length, hl] at h
theorem key_mac {enc mac : List UInt8} (he : enc.length = 32) : ∀ j v, (bs mac)[j]? = some v → (keyCells enc mac)[32 + j]? = some v := fun j v hj => by
  unfold keyCells
  have h : (bs enc).length = 32 := by rw [bs_length, he]
  rw [List.getElem?_append_right (by omega), h, Nat.add_sub_cancel_left]
  exact hj
theorem key_enc {enc mac : List UInt8} : ∀ j v, (bs enc)[j]? = some v → (keyCells enc mac)[0 + j]? = some v := fun j v hj => by
  unfold keyCells
  have hl := (List.getElem?_eq_some_iff.1 hj).1
  rw [Nat.zero_add, List.getElem?_append_left hl]
  exact hj

set_option maxRecDepth 100000 in
set_option maxHeartbeats 4000000 in
theorem tagR_any (enc mac nonce : List UInt8) (v u : Value) (ad x : List UInt8) (w : World) (he : enc.length = 32) (hmc : mac.length = 32) (hn : nonce.length = 12) (hv : Row w v (bs ad)) (hu : Row w u (bs x)) (hal : ad.length + x.length ≤ 140737488350000) (hK : KAt w 3) :
    Calls Tryd.prog 13 #[.agg (keyCells enc mac).toArray, .agg (bs nonce).toArray, v, u] w fun e w' => ∃ v', e = .returned v' ∧ Own w' w.heap.size 5 v' (bs (sealTag mac nonce ad x)) ∧ Fr Non w w' := by
  obtain ⟨i0, hi⟩ := info_parts Tryd.info5
  have hlen := run_lenRow (P := Tryd.prog) hv 27 5 Tryd.underlying27
  rw [bs_length] at hlen
  have HI := Lib.hid hi
  have HV := Lib.hid hv
  have HU := Lib.hid hu
  have HK := Lib.hid hK
  have HL := Lib.hid (And.intro he (And.intro hmc hn))
  have hzv : ∀ w, (zeroValue 46).run Tryd.prog w = .ok (.agg (bs zero32).toArray) w := fun _ => by kernel_rfl
  have HZV := Lib.hid hzv
  have hif : (Tryd.prog.info? 46).map (·.size) = some 32 := by kernel_rfl
  have HIF := Lib.hid hif
  clear hi hv hu hK he hmc hn hzv hif
  go_enter Tryd.func13, Tryd.ntmps13
  go_upto_region 1 with (fail)
  have hb1 := Blk.new w 24 (keyCells enc mac)
  have hf1 := Fr.alloc w (.cells (keyCells enc mac).toArray 24)
  have hs1 : (w.alloc (.cells (keyCells enc mac).toArray 24)).heap.size = w.heap.size + 1 := by simp
  generalize w.alloc (.cells (keyCells enc mac).toArray 24) = w1 at hb1 hf1 hs1 ⊢
  have hb2 := Blk.new w1 26 (bs nonce)
  have hf2 := Fr.alloc w1 (.cells (bs nonce).toArray 26)
  generalize w1.alloc (.cells (bs nonce).toArray 26) = w2 at hb2 hf2 ⊢
  rw [hs1] at hb2
  have HKB := Lib.hid (hb1.non hf2)
  have HNB := Lib.hid hb2
  have HF2 := Lib.hid (hf1.non hf2)
  clear hb1 hb2 hf1 hf2 hs1
  have ec : ((ad.length : Int)) ≤ 140737488350000 := by omega
  go_wp2_with fail
  refine (refFix_any ad.length 8 w2 (by omega)).mono ?_
  rintro e w3 ⟨v3, rfl, ho3, hf3⟩
  rw [show clamp8 8 = 8 from rfl] at ho3
  have HF3 := Lib.hid hf3
  have HO3 := Lib.hid ho3
  have hfl : (fixF 8 ad.length).length = 8 := fixF_length _ _
  have HE : Hid (sealTag mac nonce ad x = (macSum mac (fixF 8 ad.length ++ ad ++ nonce ++ x)).take 16) := Lib.hid rfl
  generalize fixF 8 ad.length = f8 at HO3 hfl HE
  have HF8 := Lib.hid hfl
  clear hf3 ho3 hfl
  go_wp2_with (at_builtin; refine wpList_appRow _ rfl (.tmp 15) (.tmp 16) 27 rfl w2.heap.size 5 i0 (.int .u8 0) 1 Tryd.underlying27 HI.out rfl _ (bs f8) rfl HO3.out _ (bs ad) rfl ((HV.out.non HF2.out).non HF3.out) (bs_one _) ⟨by rw [bs_length, bs_length, HF8.out]; omega, by omega⟩ HF3.out.size ?_)
  intro v4 w4 ho4 hf4 _
  rw [← bs_append] at ho4
  have HF4 := Lib.hid (HF3.out.new hf4 (fun i h => (HO3.out.lt i h).1))
  have HO4 := Lib.hid ho4
  have hnr := (HNB.out.non HF4.out).part 0 12 nonce HL.out.2.2 (by unfold maxLen; omega) (fun j v hj => by rw [Nat.zero_add]; exact hj)
  have HNR := Lib.hid hnr
  clear ho4 hf4 hnr HO3 HF3
  go_wp2_with (at_builtin; refine wpList_appRow _ rfl (.tmp 18) (.tmp 19) 27 rfl w2.heap.size 5 i0 (.int .u8 0) 1 Tryd.underlying27 HI.out rfl _ (bs (f8 ++ ad)) rfl HO4.out _ (bs nonce) rfl HNR.out (bs_one _) ⟨by rw [bs_length, bs_length, List.length_append, HF8.out, HL.out.2.2]; omega, by omega⟩ HF4.out.size ?_)
  intro v5 w5 ho5 hf5 _
  rw [← bs_append] at ho5
  have HF5 := Lib.hid (HF4.out.new hf5 (fun i h => (HO4.out.lt i h).1))
  have HO5 := Lib.hid ho5
  clear ho5 hf5 HO4 HNR HF4
  go_wp2_with (at_builtin; refine wpList_appRow _ rfl (.tmp 21) (.tmp 22) 27 rfl w2.heap.size 5 i0 (.int .u8 0) 1 Tryd.underlying27 HI.out rfl _ (bs (f8 ++ ad ++ nonce)) rfl HO5.out _ (bs x) rfl ((HU.out.non HF2.out).non HF5.out) (bs_one _) ⟨by rw [bs_length, bs_length, List.length_append, List.length_append, HF8.out, HL.out.2.2]; omega, by omega⟩ HF5.out.size ?_)
  intro v6 w6 ho6 hf6 _
  have HF6 := Lib.hid (HF5.out.new hf6 (fun i h => (HO5.out.lt i h).1))
  have HO6 : Hid (Own w6 w2.heap.size 5 v6 (bs (f8 ++ ad ++ nonce ++ x))) := Lib.hid (by rw [bs_append, List.append_assoc f8 ad nonce]; exact ho6)
  clear ho6 hf6 HO5 HF5
  have hkr := (HKB.out.non HF6.out).part 32 32 mac HL.out.2.1 (by unfold maxLen; omega) (key_mac HL.out.1)
  have HKR := Lib.hid hkr
  have hin : (f8 ++ ad ++ nonce ++ x).length ≤ 140737488354000 := by simp only [List.length_append, HF8.out, HL.out.2.2]; omega
  have HIN := Lib.hid hin
  clear hkr hin
  go_wp2_with fail
  refine (macRef_any _ v6 mac (f8 ++ ad ++ nonce ++ x) w6 HKR.out (by rw [HL.out.2.1]; omega) HO6.out.row HIN.out ((HK.out.frame HF2.out (fun h => h)).frame HF6.out (fun h => h))).mono ?_
  rintro e w7 ⟨rfl, hf7⟩
  have HD : Hid ((macSum mac (f8 ++ ad ++ nonce ++ x)).length = 32 ∧ sealTag mac nonce ad x = (macSum mac (f8 ++ ad ++ nonce ++ x)).take 16) := Lib.hid ⟨macSum_length _ _, HE.out⟩
  generalize macSum mac (f8 ++ ad ++ nonce ++ x) = D at HD
  have HF7 := Lib.hid ((HF2.out.non HF6.out).non hf7)
  clear hf7 HE HO6 HF6 HKR HIN
  go_wp2_with ((with_reducible show wpList _ _ _ (({ op := .alloc _, .. } : Oper) :: _) _ _); refine wpList_var rfl rfl 46 10 (.tmp 27) rfl rfl rfl rfl _ (bs D) HZV.out (by rw [bs_length, bs_length, HD.out.1]; rfl) (by rw [bs_length, HD.out.1]; exact HIF.out) (bs_one _) (by simp) (fun _ => rfl) ?_)
  intro w8 hb8 hf8 hs8
  simp only [List.set_cons_succ, List.set_cons_zero]
  obtain ⟨X, hX⟩ : ∃ X, X = w7.heap.size := ⟨_, rfl⟩
  rw [← hX] at hb8 hs8 ⊢
  have HF8' := Lib.hid (HF7.out.non hf8)
  have HB8 := Lib.hid hb8
  have hsl := run_arrHi (P := Tryd.prog) Tryd.underlying46 (by kernel_rfl) X 0 .i64 16 16 rfl (by omega)
  clear hb8 hf8 hX
  have hge : w.heap.size ≤ w8.heap.size := HF8'.out.size
  have ho9 : Own (w8.alloc (.cells #[] 5)) w8.heap.size 5 (.slice (some ⟨w8.heap.size, 0, none⟩) 0 0) [] := Own.empty w8 _ _ (Nat.le_refl _)
  have HO9 := Lib.hid ho9
  have hr9 := ((HB8.out.non (Fr.alloc w8 (.cells #[] 5))).row 0 32 (bs (D.take 16)) (by rw [bs_length, List.length_take, HD.out.1]; omega) (by unfold maxLen; omega) (fun j v hj => by
    rw [Nat.zero_add]
    simp only [bs, List.map_take] at hj ⊢
    rw [List.getElem?_take] at hj
    split at hj
    · exact hj
    · cases hj))
  have hl16 : (bs (D.take 16)).length = 16 := by rw [bs_length, List.length_take, HD.out.1]; rfl
  rw [hl16] at hr9
  have HR9 := Lib.hid (And.intro hr9 hl16)
  clear ho9 hr9 hl16 hs8
  go_wp2_with (at_builtin; refine wpList_appRow _ rfl (.tmp 28) (.tmp 29) 27 rfl w8.heap.size 5 i0 (.int .u8 0) 1 Tryd.underlying27 HI.out rfl _ [] rfl HO9.out _ (bs (D.take 16)) rfl HR9.out.1 (bs_one _) ⟨by rw [HR9.out.2]; simp, by omega⟩ (by simp) ?_)
  intro v9 w9 ho9 hf9 _
  rw [← HD.out.2] at ho9
  have HOF := Lib.hid (ho9.mono hge)
  have HFF := Lib.hid ((HF8'.out.non (Fr.alloc w8 (.cells #[] 5))).new hf9 (fun i h => by have h1 := (HO9.out.lt i h).1; omega))
  clear ho9 hf9 HO9 HR9
  go_wp2_with fail
  go_ret
  exact ⟨_, rfl, HOF.out, HFF.out⟩
end Go.Proofs.YthfpkdbhihcniaaDoor

/- the document's sealed texts: Seal -/
namespace Go.Proofs.YthfpkdbhihcniaaDoor
open Go.ChangeShapes Go.WideShapes Go.ChangeAt Go.RowKit

set_option maxRecDepth 100000 in
set_option maxHeartbeats 4000000 in
theorem sealR_any (enc mac nonce : List UInt8) (v u : Value) (ad text : List UInt8) (w : World) (he : enc.length = 32) (hmc : mac.length = 32) (hn : nonce.length = 12) (hv : Row w v (bs ad)) (hu : Row w u (bs text)) (hal : ad.length + text.length ≤ 140737488340000) (hK : KAt w 3) :
    Calls Tryd.prog 12 #[.agg (keyCells enc mac).toArray, .agg (bs nonce).toArray, v, u] w fun e w' => ∃ v', e = .returned v' ∧ Own w' w.heap.size 5 v' (bs (sealSeal enc mac nonce ad text)) ∧ Fr Non w w' := by
  obtain ⟨i0, hi⟩ := info_parts Tryd.info5
  have HI := Lib.hid hi
  have HV := Lib.hid hv
  have HU := Lib.hid hu
  have HK := Lib.hid hK
  have HL := Lib.hid (And.intro he (And.intro hmc hn))
  have hik : (Tryd.prog.info? 24).map (·.size) = some (keyCells enc mac).length := by unfold keyCells; rw [List.length_append, bs_length, bs_length, he, hmc]; kernel_rfl
  have hie : (Tryd.prog.info? 22).map (·.size) = some (bs enc).length := by rw [bs_length, he]; kernel_rfl
  have hin : (Tryd.prog.info? 26).map (·.size) = some (bs nonce).length := by rw [bs_length, hn]; kernel_rfl
  have HIS := Lib.hid (And.intro hik (And.intro hie hin))
  clear hi hv hu hK he hmc hn hik hie hin
  go_enter Tryd.func12, Tryd.ntmps12
  go_upto_region 1 with (fail)
  have hb1 := Blk.new w 24 (keyCells enc mac)
  have hf1 := Fr.alloc w (.cells (keyCells enc mac).toArray 24)
  have hs1 : (w.alloc (.cells (keyCells enc mac).toArray 24)).heap.size = w.heap.size + 1 := by simp
  generalize w.alloc (.cells (keyCells enc mac).toArray 24) = w1 at hb1 hf1 hs1 ⊢
  have hb2 := Blk.new w1 26 (bs nonce)
  have hf2 := Fr.alloc w1 (.cells (bs nonce).toArray 26)
  generalize w1.alloc (.cells (bs nonce).toArray 26) = w2 at hb2 hf2 ⊢
  rw [hs1] at hb2
  have HKB := Lib.hid (hb1.non hf2)
  have HNB := Lib.hid hb2
  have HF2 := Lib.hid (hf1.non hf2)
  clear hb1 hb2 hf1 hf2 hs1
  go_wp2_with ((with_reducible show wpList _ _ _ (({ op := .load _ _, .. } : Oper) :: _) _ _); first | (refine wpList_load_mid rfl 22 _ rfl w.heap.size 0 rfl (bs enc) _ (HKB.out.range 0 _ key_enc) Tryd.underlying22 rfl HIS.out.2.1 ?_) | (refine wpList_load_mid rfl 26 _ rfl (w.heap.size + 1) 0 rfl (bs nonce) _ (HNB.out.range 0 _ (fun j v hv => by simpa using hv)) Tryd.underlying26 rfl HIS.out.2.2 ?_))
  refine (crossL_any enc nonce 1 u text w2 HL.out.1 HL.out.2.2 (by omega) (HU.out.non HF2.out) (by omega)).mono ?_
  rintro e w3 ⟨v3, rfl, ho3, hf3⟩
  have HE : Hid (sealSeal enc mac nonce ad text = streamCross enc nonce 1 text ++ sealTag mac nonce ad (streamCross enc nonce 1 text)) := Lib.hid rfl
  have hxl := streamCross_length enc nonce 1 text
  generalize streamCross enc nonce 1 text = x at ho3 HE hxl
  have HXL := Lib.hid hxl
  have HO3 := Lib.hid ho3
  have HF3 := Lib.hid hf3
  clear ho3 hf3 hxl
  go_upto_region 2 with (fail)
  go_wp2_with ((with_reducible show wpList _ _ _ (({ op := .load _ _, .. } : Oper) :: _) _ _); first | (refine wpList_load_mid rfl 24 _ rfl w.heap.size 0 rfl (keyCells enc mac) _ ((HKB.out.non HF3.out).range 0 _ (fun j v hv => by simpa using hv)) Tryd.underlying24 rfl HIS.out.1 ?_) | (refine wpList_load_mid rfl 26 _ rfl (w.heap.size + 1) 0 rfl (bs nonce) _ ((HNB.out.non HF3.out).range 0 _ (fun j v hv => by simpa using hv)) Tryd.underlying26 rfl HIS.out.2.2 ?_))
  refine (tagR_any enc mac nonce v v3 ad x w3 HL.out.1 HL.out.2.1 HL.out.2.2 ((HV.out.non HF2.out).non HF3.out) HO3.out.row (by rw [HXL.out]; omega) ((HK.out.frame HF2.out (fun h => h)).frame HF3.out (fun h => h))).mono ?_
  rintro e w4 ⟨v4, rfl, ho4, hf4⟩
  have htl := sealTag_length mac nonce ad x
  generalize sealTag mac nonce ad x = t at ho4 HE htl
  have HTL := Lib.hid htl
  have HO4 := Lib.hid ho4
  have HF4 := Lib.hid hf4
  clear ho4 hf4 htl
  go_wp2_with (at_builtin; refine wpList_appRow _ rfl (.tmp 21) (.tmp 22) 27 rfl w2.heap.size 5 i0 (.int .u8 0) 1 Tryd.underlying27 HI.out rfl _ (bs x) rfl (HO3.out.non HF4.out) _ (bs t) rfl HO4.out.row (bs_one _) ⟨by rw [bs_length, bs_length, HXL.out, HTL.out]; omega, by omega⟩ (Nat.le_trans HF3.out.size HF4.out.size) ?_)
  intro v5 w5 ho5 hf5 _
  have HR5 : Hid (Own w5 w.heap.size 5 v5 (bs (sealSeal enc mac nonce ad text))) := Lib.hid (by rw [HE.out, bs_append]; exact ho5.mono HF2.out.size)
  have HFF := Lib.hid (((HF2.out.non HF3.out).non HF4.out).new hf5 (fun i h => by have h1 := (HO3.out.lt i h).1; have h2 := HF2.out.size; omega))
  clear ho5 hf5
  go_wp2_with fail
  go_ret
  exact ⟨_, rfl, HR5.out, HFF.out⟩
end Go.Proofs.YthfpkdbhihcniaaDoor

/- the document's sealed texts: Open -/
namespace Go.Proofs.YthfpkdbhihcniaaDoor
open Go.ChangeShapes Go.WideShapes Go.ChangeAt Go.RowKit

/-- what is opened: nothing where bytes are refused -/
def sealOut (enc mac nonce ad b : List UInt8) : List UInt8 := if sealGood mac nonce ad b then sealText enc nonce b else []
def sealErr (mac nonce ad b : List UInt8) : Nat := if sealGood mac nonce ad b then 0 else 60
theorem out_bad {enc mac nonce ad b : List UInt8} (h : sealGood mac nonce ad b = false) : sealOut enc mac nonce ad b = [] ∧ sealErr mac nonce ad b = 60 := by unfold sealOut sealErr; rw [h]; exact ⟨rfl, rfl⟩
theorem out_good {enc mac nonce ad b : List UInt8} (h : sealGood mac nonce ad b = true) : sealOut enc mac nonce ad b = sealText enc nonce b ∧ sealErr mac nonce ad b = 0 := by unfold sealOut sealErr; rw [h]; exact ⟨rfl, rfl⟩
theorem bad_short {mac nonce ad b : List UInt8} (h : b.length < 16) : sealGood mac nonce ad b = false := by
  unfold sealGood
  rw [show decide (16 ≤ b.length) = false by simp; omega]
  rfl
theorem retOpen (v : Value) {n m : Nat} (h : n = m) : Ending.returned (.tuple #[v, .int .i64 (n : Int)]) = .returned (.tuple #[v, .int .i64 (m : Int)]) := by rw [h]

set_option maxRecDepth 100000 in
set_option maxHeartbeats 4000000 in
theorem openR_any (enc mac nonce : List UInt8) (v u : Value) (ad b : List UInt8) (w : World) (he : enc.length = 32) (hmc : mac.length = 32) (hn : nonce.length = 12) (hv : Row w v (bs ad)) (hu : Row w u (bs b)) (hal : ad.length + b.length ≤ 140737488340000) (hK : KAt w 3) :
    Calls Tryd.prog 15 #[.agg (keyCells enc mac).toArray, .agg (bs nonce).toArray, v, u] w fun e w' => ∃ v', e = .returned (.tuple #[v', .int .i64 (sealErr mac nonce ad b : Nat)]) ∧ Own w' w.heap.size 5 v' (bs (sealOut enc mac nonce ad b)) ∧ Fr Non w w' := by
  obtain ⟨i0, hi⟩ := info_parts Tryd.info5
  have hlen := run_lenRow (P := Tryd.prog) hu 27 5 Tryd.underlying27
  rw [bs_length] at hlen
  have HI := Lib.hid hi
  have HV := Lib.hid hv
  have HU := Lib.hid hu
  have HK := Lib.hid hK
  have HL := Lib.hid (And.intro he (And.intro hmc hn))
  have hik : (Tryd.prog.info? 24).map (·.size) = some (keyCells enc mac).length := by unfold keyCells; rw [List.length_append, bs_length, bs_length, he, hmc]; kernel_rfl
  have hie : (Tryd.prog.info? 22).map (·.size) = some (bs enc).length := by rw [bs_length, he]; kernel_rfl
  have hin : (Tryd.prog.info? 26).map (·.size) = some (bs nonce).length := by rw [bs_length, hn]; kernel_rfl
  have huk := Tryd.underlying24
  have hue := Tryd.underlying22
  have hun := Tryd.underlying26
  clear hi hv hK he hmc hn
  by_cases h16 : b.length < 16
  case pos =>
    have hb := out_bad (enc := enc) (bad_short (mac := mac) (nonce := nonce) (ad := ad) h16)
    have HB := Lib.hid hb
    have e1 : IntKind.i64.wrap ((b.length : Int) - 16) = (b.length : Int) - 16 := IntWalk.i64_in _ (by omega)
    have e2 : (b.length : Int) - 16 < 0 := by omega
    have e3 : decide ((b.length : Int) - 16 < 0) = true := by simp; omega
    clear hb hu
    go_enter Tryd.func15, Tryd.ntmps15
    go_upto_region 2 with (fail)
    go_quiet (fail)
    go_wp2
    first | go_ret | go_ret2
    exact ⟨_, retOpen _ HB.out.2.symm, by rw [HB.out.1]; exact Own.nil _ _ _, ((Fr.alloc _ _).non (Fr.alloc _ _)).non (Fr.drewN _ _)⟩
  case neg =>
    obtain ⟨N, hN⟩ : ∃ N, b.length = N + 16 := ⟨b.length - 16, by omega⟩
    have htold := seal_told mac nonce ad b N hN
    have e1 : IntKind.i64.wrap ((b.length : Int) - 16) = (N : Int) := by rw [IntWalk.i64_in _ (by omega)]; omega
    have e2 : ¬ (N : Int) < 0 := by omega
    have e3 : decide ((N : Int) < 0) = false := decide_eq_false e2
    have z1 : (0 : Int) ≤ (N : Int) := by omega
    have z2 : (N : Int) ≤ (b.length : Int) := by omega
    obtain ⟨x1, rs1, hx1, -⟩ := run_subHi (P := Tryd.prog) hu 27 5 Tryd.underlying27 (by kernel_rfl) .i64 N N rfl (by rw [bs_length]; omega)
    obtain ⟨x2, rs2, hx2, -⟩ := run_subLo (P := Tryd.prog) hu 27 5 Tryd.underlying27 (by kernel_rfl) .i64 N N rfl (by rw [bs_length]; omega)
    have hx1' : Row w x1 (bs (b.take N)) := by simpa [bs, List.map_take] using hx1
    have hx2' : Row w x2 (bs (b.drop N)) := by simpa [bs, List.map_drop] using hx2
    have htx : sealText enc nonce b = streamCross enc nonce 1 (b.take N) := by unfold sealText; rw [hN, Nat.add_sub_cancel]
    have hl1 : (b.take N).length = N := by rw [List.length_take]; omega
    have HTL := Lib.hid (And.intro htold htx)
    have hbl : N ≤ b.length := by omega
    have HBL := Lib.hid hN
    clear hx1 hx2 htold htx hN
    generalize b.take N = b1 at hx1' HTL hl1
    generalize b.drop N = b2 at hx2' HTL
    have HX1 := Lib.hid hx1'
    have HX2 := Lib.hid hx2'
    have HL1 := Lib.hid hl1
    clear hx1' hx2' hl1 hu
    go_enter Tryd.func15, Tryd.ntmps15
    go_upto_region 1 with (fail)
    have hb1 := Blk.new w 24 (keyCells enc mac)
    have hf1 := Fr.alloc w (.cells (keyCells enc mac).toArray 24)
    have hs1 : (w.alloc (.cells (keyCells enc mac).toArray 24)).heap.size = w.heap.size + 1 := by simp
    generalize w.alloc (.cells (keyCells enc mac).toArray 24) = w1 at hb1 hf1 hs1 ⊢
    have hb2 := Blk.new w1 26 (bs nonce)
    have hf2 := Fr.alloc w1 (.cells (bs nonce).toArray 26)
    generalize w1.alloc (.cells (bs nonce).toArray 26) = w2 at hb2 hf2 ⊢
    rw [hs1] at hb2
    obtain ⟨P, hP⟩ : ∃ P, P = w.heap.size := ⟨_, rfl⟩
    rw [← hP] at hb1 hb2 ⊢
    have HKB := Lib.hid (hb1.non hf2)
    have HNB := Lib.hid hb2
    have HF2 := Lib.hid (hf1.non hf2)
    have HPE := Lib.hid hP
    clear hb1 hb2 hf1 hf2 hs1 hP
    go_upto_region 2 with (fail)
    have hS0 : (fun w' : World => w'.rangeAt P 0 (keyCells enc mac) ∧ w'.rangeAt (P + 1) 0 (bs nonce) ∧ Row w' x2 (bs b2)) w2.drew := ⟨(HKB.out.non (Fr.drew _)).range 0 _ (fun j v hv => by simpa using hv), (HNB.out.non (Fr.drew _)).range 0 _ (fun j v hv => by simpa using hv), (HX2.out.non HF2.out).non (Fr.drew _)⟩
    refine wp_region_held_drew (S := fun w' => w'.rangeAt P 0 (keyCells enc mac) ∧ w'.rangeAt (P + 1) 0 (bs nonce) ∧ Row w' x2 (bs b2)) (by kernel_rfl) hS0 (fun hHeld => ?_)
    refine wpAnyH_takeL (i := 0) 14 (v := ?_) rfl rfl (by kernel_rfl) (by kernel_rfl) (by kernel_rfl) (fun _ _ _ h => h) (by assumption) (Or.inl ⟨by rfl, ?_⟩) ?_
    rotate_left
    · intro w hSw; go_simp; (try with_reducible rfl)
    simp only [List.set_cons_zero, List.set_cons_succ]
    refine wpAnyH_takeL (i := 1) 15 (v := ?_) rfl rfl (by kernel_rfl) (by kernel_rfl) (by kernel_rfl) (fun _ _ _ h => h) (by assumption) (Or.inl ⟨by rfl, ?_⟩) ?_
    rotate_left
    · intro w hSw; go_simp; (try with_reducible rfl)
    simp only [List.set_cons_zero, List.set_cons_succ]
    refine wpAnyH_takeL (i := 2) 16 (v := ?_) rfl rfl (by kernel_rfl) (by kernel_rfl) (by kernel_rfl) (fun _ _ _ h => h) (by assumption) (Or.inl ⟨by rfl, ?_⟩) ?_
    rotate_left
    · intro w hSw; go_simp; (try with_reducible rfl)
    simp only [List.set_cons_zero, List.set_cons_succ]
    refine wpAnyH_takeL (i := 3) 17 (v := .agg (keyCells enc mac).toArray) rfl rfl (by kernel_rfl) (by kernel_rfl) (by kernel_rfl) (fun _ _ _ h => h) (by assumption) (yieldsIf_load_mid (by rfl) _ _ rfl P (0) rfl (keyCells enc mac) _ (fun w h => h.1) huk rfl hik) ?_
    simp only [List.set_cons_zero, List.set_cons_succ]
    refine wpAnyH_takeL (i := 4) 18 (v := .agg (bs nonce).toArray) rfl rfl (by kernel_rfl) (by kernel_rfl) (by kernel_rfl) (fun _ _ _ h => h) (by assumption) (yieldsIf_load_mid (by rfl) _ _ rfl (P + 1) (0) rfl (bs nonce) _ (fun w h => h.2.1) hun rfl hin) ?_
    simp only [List.set_cons_zero, List.set_cons_succ]
    refine wpAnyH_takeL (i := 5) 19 (v := ?_) rfl rfl (by kernel_rfl) (by kernel_rfl) (by kernel_rfl) (fun _ _ _ h => h) (by assumption) (Or.inl ⟨by rfl, ?_⟩) ?_
    rotate_left
    · intro w hSw; go_simp; (try with_reducible rfl)
    simp only [List.set_cons_zero, List.set_cons_succ]
    refine wpAnyH_takeL (i := 6) 20 (v := ?_) rfl rfl (by kernel_rfl) (by kernel_rfl) (by kernel_rfl) (fun _ _ _ h => h) (by assumption) (Or.inl ⟨by rfl, ?_⟩) ?_
    rotate_left
    · intro w hSw; go_simp; (try with_reducible rfl)
    simp only [List.set_cons_zero, List.set_cons_succ]
    refine wpAnyH_takeL (i := 7) 21 (v := ?_) rfl rfl (by kernel_rfl) (by kernel_rfl) (by kernel_rfl) (fun _ _ _ h => h) (by assumption) (Or.inl ⟨by rfl, ?_⟩) ?_
    rotate_left
    · intro w hSw; go_simp; (try with_reducible rfl)
    simp only [List.set_cons_zero, List.set_cons_succ]
    refine wpAnyH_takeL (i := 8) 22 (v := ?_) rfl rfl (by kernel_rfl) (by kernel_rfl) (by kernel_rfl) (fun _ _ _ h => h) (by assumption) (Or.inl ⟨by rfl, ?_⟩) ?_
    rotate_left
    · intro w hSw; go_simp; (try with_reducible rfl)
    simp only [List.set_cons_zero, List.set_cons_succ]
    refine wpAnyH_takeL (i := 11) 25 (v := ?_) rfl rfl (by kernel_rfl) (by kernel_rfl) (by kernel_rfl) (fun _ _ _ h => h) (by assumption) (Or.inl ⟨by rfl, ?_⟩) ?_
    rotate_left
    · intro w hSw; go_simp; (try with_reducible rfl)
    simp only [List.set_cons_zero, List.set_cons_succ]
    refine wpAnyH_takeL (i := 12) 26 (v := ?_) rfl rfl (by kernel_rfl) (by kernel_rfl) (by kernel_rfl) (fun _ _ _ h => h) (by assumption) (Or.inl ⟨by rfl, ?_⟩) ?_
    rotate_left
    · intro w hSw; go_simp; (try with_reducible rfl)
    simp only [List.set_cons_zero, List.set_cons_succ]
    refine wpAnyH_takeL (i := 13) 27 (v := ?_) rfl rfl (by kernel_rfl) (by kernel_rfl) (by kernel_rfl) (fun _ _ _ h => h) (by assumption) (Or.inl ⟨by rfl, ?_⟩) ?_
    rotate_left
    · intro w hSw; go_simp; (try with_reducible rfl)
    simp only [List.set_cons_zero, List.set_cons_succ]
    refine wpAnyH_takeL (i := 14) 28 (v := .string ⟨b2.toArray⟩) rfl rfl (by kernel_rfl) (by kernel_rfl) (by kernel_rfl) (fun _ _ _ h => h) (by assumption) (Or.inl ⟨by rfl, ?_⟩) ?_
    · intro w hSw; have hx := run_str (P := Tryd.prog) w 27 9 5 _ _ hSw.2.2 Tryd.underlying27 Tryd.underlying5 Tryd.underlying9; go_simp
    simp only [List.set_cons_zero, List.set_cons_succ]
    refine wpAnyH_ready (rs := [9]) (by kernel_rfl) (by simp) ?_
    refine AllReadyH.cons (o := ⟨some 23, _, _, _, _, _⟩) rfl (fun K hK => ?_) (AllReadyH.nil)
    go_simp
    go_wp2_with (go_at_call 13; refine (tagR_any enc mac nonce v x1 ad b1 _ HL.out.1 HL.out.2.1 HL.out.2.2 (HV.out.non (HF2.out.non (Fr.drew _))) (HX1.out.non (HF2.out.non (Fr.drew _))) (by rw [HL1.out]; omega) (HK.out.frame (HF2.out.non (Fr.drew _)) (fun h => h))).mono ?_; rintro e r2 ⟨v9, rfl, ho9, hf2⟩)
    have hr9 := ho9.row
    clear ho9
    have F2 : Hid (Fr Non w2.drew r2) := Lib.hid hf2
    clear hf2
    generalize sealTag mac nonce ad b1 = t at hr9 HTL
    refine hK.out _ _ (⟨(HKB.out.non ((Fr.drew _).non F2.out)).range 0 _ (fun j v hv => by simpa using hv), (HNB.out.non ((Fr.drew _).non F2.out)).range 0 _ (fun j v hv => by simpa using hv), (HX2.out.non HF2.out).non ((Fr.drew _).non F2.out)⟩) (fun hHeld => ?_)
    clear hK K
    refine wpAnyH_ready (rs := [10]) (by kernel_rfl) (by simp) ?_
    refine AllReadyH.cons (o := ⟨some 24, _, _, _, _, _⟩) rfl (fun K hK => ?_) (AllReadyH.nil)
    have hxs := run_str (P := Tryd.prog) r2 27 9 5 _ _ hr9 Tryd.underlying27 Tryd.underlying5 Tryd.underlying9
    go_simp
    refine hK.out _ _ (⟨(HKB.out.non ((Fr.drew _).non F2.out)).range 0 _ (fun j v hv => by simpa using hv), (HNB.out.non ((Fr.drew _).non F2.out)).range 0 _ (fun j v hv => by simpa using hv), (HX2.out.non HF2.out).non ((Fr.drew _).non F2.out)⟩) (fun hHeld => ?_)
    clear hK K
    refine wpAnyH_takeL (i := 15) 29 (v := ?_) rfl rfl (by kernel_rfl) (by kernel_rfl) (by kernel_rfl) (fun _ _ _ h => h) (by assumption) (Or.inl ⟨by rfl, ?_⟩) ?_
    rotate_left
    · intro w hSw; go_simp; (try with_reducible rfl)
    simp only [List.set_cons_zero, List.set_cons_succ]
    refine wpAnyH_takeL (i := 16) 30 (v := ?_) rfl rfl (by kernel_rfl) (by kernel_rfl) (by kernel_rfl) (fun _ _ _ h => h) (by assumption) (Or.inl ⟨by rfl, ?_⟩) ?_
    rotate_left
    · intro w hSw; go_simp; (try with_reducible rfl)
    simp only [List.set_cons_zero, List.set_cons_succ]
    refine wpAnyH_done (by kernel_rfl) ?_ _
    generalize hw5 : r2 = w5
    have HF5 : Hid (Fr Non w2 w5) := Lib.hid (by rw [← hw5]; exact ((Fr.drew _).non F2.out))
    clear hw5 hr9 hxs hHeld hS0
    by_cases htb : (t == b2) = true
    case pos =>
      have hb := out_good (enc := enc) (HTL.out.1.trans htb)
      rw [HTL.out.2] at hb
      have HB := Lib.hid hb
      clear hb
      rw [htb]
      go_upto_region 4 with (fail)
      have hS1 : (fun w' : World => w'.rangeAt P 0 (bs enc) ∧ w'.rangeAt (P + 1) 0 (bs nonce)) w5.drew := ⟨((HKB.out.non HF5.out).non (Fr.drew _)).range 0 _ key_enc, ((HNB.out.non HF5.out).non (Fr.drew _)).range 0 _ (fun j v hv => by simpa using hv)⟩
      refine wp_region_held_drew (S := fun w' => w'.rangeAt P 0 (bs enc) ∧ w'.rangeAt (P + 1) 0 (bs nonce)) (by kernel_rfl) hS1 (fun hHeld => ?_)
      refine wpAnyH_takeL (i := 0) 31 (v := ?_) rfl rfl (by kernel_rfl) (by kernel_rfl) (by kernel_rfl) (fun _ _ _ h => h) (by assumption) (Or.inl ⟨by rfl, ?_⟩) ?_
      rotate_left
      · intro w hSw; go_simp; (try with_reducible rfl)
      simp only [List.set_cons_zero, List.set_cons_succ]
      refine wpAnyH_takeL (i := 1) 32 (v := .agg (bs enc).toArray) rfl rfl (by kernel_rfl) (by kernel_rfl) (by kernel_rfl) (fun _ _ _ h => h) (by assumption) (yieldsIf_load_mid (by rfl) _ _ rfl P (0) rfl (bs enc) _ (fun w h => h.1) hue rfl hie) ?_
      simp only [List.set_cons_zero, List.set_cons_succ]
      refine wpAnyH_takeL (i := 2) 33 (v := .agg (bs nonce).toArray) rfl rfl (by kernel_rfl) (by kernel_rfl) (by kernel_rfl) (fun _ _ _ h => h) (by assumption) (yieldsIf_load_mid (by rfl) _ _ rfl (P + 1) (0) rfl (bs nonce) _ (fun w h => h.2) hun rfl hin) ?_
      simp only [List.set_cons_zero, List.set_cons_succ]
      refine wpAnyH_takeL (i := 3) 34 (v := ?_) rfl rfl (by kernel_rfl) (by kernel_rfl) (by kernel_rfl) (fun _ _ _ h => h) (by assumption) (Or.inl ⟨by rfl, ?_⟩) ?_
      rotate_left
      · intro w hSw; go_simp; (try with_reducible rfl)
      simp only [List.set_cons_zero, List.set_cons_succ]
      refine wpAnyH_takeL (i := 4) 35 (v := ?_) rfl rfl (by kernel_rfl) (by kernel_rfl) (by kernel_rfl) (fun _ _ _ h => h) (by assumption) (Or.inl ⟨by rfl, ?_⟩) ?_
      rotate_left
      · intro w hSw; go_simp; (try with_reducible rfl)
      simp only [List.set_cons_zero, List.set_cons_succ]
      refine wpAnyH_takeL (i := 5) 36 (v := ?_) rfl rfl (by kernel_rfl) (by kernel_rfl) (by kernel_rfl) (fun _ _ _ h => h) (by assumption) (Or.inl ⟨by rfl, ?_⟩) ?_
      rotate_left
      · intro w hSw; go_simp; (try with_reducible rfl)
      simp only [List.set_cons_zero, List.set_cons_succ]
      refine wpAnyH_ready (rs := [6]) (by kernel_rfl) (by simp) ?_
      refine AllReadyH.cons (o := ⟨some 37, _, _, _, _, _⟩) rfl (fun K hK => ?_) (AllReadyH.nil)
      go_simp
      go_wp2_with (go_at_call 19; refine (crossL_any enc nonce 1 x1 b1 _ HL.out.1 HL.out.2.2 (by omega) (HX1.out.non (HF2.out.non (HF5.out.non (Fr.drew _)))) (by rw [HL1.out]; omega)).mono ?_; rintro e r2 ⟨y9, rfl, ho9, hf2⟩)
      have HO9 := Lib.hid ho9
      clear ho9
      have F2 : Hid (Fr Non w5.drew r2) := Lib.hid hf2
      clear hf2
      refine hK.out _ _ (⟨((HKB.out.non HF5.out).non ((Fr.drew _).non F2.out)).range 0 _ key_enc, ((HNB.out.non HF5.out).non ((Fr.drew _).non F2.out)).range 0 _ (fun j v hv => by simpa using hv)⟩) (fun hHeld => ?_)
      clear hK K
      refine wpAnyH_takeL (i := 7) 8 (v := ?_) rfl rfl (by kernel_rfl) (by kernel_rfl) (by kernel_rfl) (fun _ _ _ h => h) (by assumption) (Or.inl ⟨by rfl, ?_⟩) ?_
      rotate_left
      · intro w hSw; go_simp; (try with_reducible rfl)
      simp only [List.set_cons_zero, List.set_cons_succ]
      refine wpAnyH_takeL (i := 8) 9 (v := ?_) rfl rfl (by kernel_rfl) (by kernel_rfl) (by kernel_rfl) (fun _ _ _ h => h) (by assumption) (Or.inl ⟨by rfl, ?_⟩) ?_
      rotate_left
      · intro w hSw; go_simp; (try with_reducible rfl)
      simp only [List.set_cons_zero, List.set_cons_succ]
      refine wpAnyH_done (by kernel_rfl) ?_ _
      have hfin := HF2.out.non (HF5.out.non ((Fr.drew _).non F2.out))
      have hbase : w.heap.size ≤ w5.drew.heap.size := (HF2.out.non (HF5.out.non (Fr.drew _))).size
      go_wp2_with fail
      first | go_ret | go_ret2
      exact ⟨_, retOpen _ HB.out.2.symm, by rw [HB.out.1]; exact HO9.out.mono hbase, hfin⟩
    case neg =>
      have htf : (t == b2) = false := by simpa using htb
      have hb := out_bad (enc := enc) (HTL.out.1.trans htf)
      have HB := Lib.hid hb
      clear hb
      rw [htf]
      go_wp2_with fail
      first | go_ret | go_ret2
      exact ⟨_, retOpen _ HB.out.2.symm, by rw [HB.out.1]; exact Own.nil _ _ _, HF2.out.non HF5.out⟩
end Go.Proofs.YthfpkdbhihcniaaDoor
