/- layer 6: what was sealed is opened -/
import Derived.Test.YthfpkdbhihcniaaDoorLaw06B

namespace Go.Proofs.YthfpkdbhihcniaaDoor
open Go.ChangeShapes Go.WideShapes Go.ChangeAt Go.RowKit

set_option maxRecDepth 100000 in
set_option maxHeartbeats 4000000 in
/-- P6.4 -/
theorem back6_any (W : World) (enc mac nonce ad : List UInt8) (va : Value) (v : Value) (l : List UInt8) (hL : laidMetH Tryd.prog Rows.sealBackRow.laid W) (he : enc.length = 32) (hmc : mac.length = 32) (hn : nonce.length = 12) (hva : Row W va (bs ad)) (hal : ad.length ≤ 140737488351232) (hv : Row W v (bs l)) (hl : l.length ≤ 140737488351232) :
    Calls Tryd.prog 5 #[.agg (withCells enc mac nonce va).toArray, v] W fun e W' => e = .returned (.bool true) ∧ Fr Non W W' := by
  have HT := Lib.hid (seal_laid3 hL)
  have hlen := run_lenRow (P := Tryd.prog) hv 27 5 Tryd.underlying27
  rw [bs_length] at hlen
  have HV := Lib.hid hv
  clear hL hv
  have HL := Lib.hid (And.intro he (And.intro hmc hn))
  have HVA := Lib.hid hva
  have hik : (Tryd.prog.info? 24).map (·.size) = some (keyCells enc mac).length := by unfold keyCells; rw [List.length_append, bs_length, bs_length, he, hmc]; kernel_rfl
  have hin : (Tryd.prog.info? 26).map (·.size) = some (bs nonce).length := by rw [bs_length, hn]; kernel_rfl
  have HWC := Lib.hid (with_at (va := va) he hmc hn)
  clear he hmc hn hva
  have huk := Tryd.underlying24
  have hun := Tryd.underlying26
  obtain ⟨B, hB⟩ : ∃ B, B = sealSeal enc mac nonce ad l := ⟨_, rfl⟩
  have hgood : sealOut enc mac nonce ad B = l ∧ sealErr mac nonce ad B = 0 := by
    rw [hB]
    obtain ⟨g1, g2⟩ := out_good (enc := enc) (seal_good enc mac nonce ad l)
    exact ⟨g1.trans (seal_back _ _ _ _ _), g2⟩
  have hBl : B.length = l.length + 16 := by rw [hB]; exact sealSeal_length _ _ _ _ _
  have HG := Lib.hid hgood
  have HB := Lib.hid (And.intro hB hBl)
  have e16 : IntKind.i64.wrap ((l.length : Int) + 16) = (l.length : Int) + 16 := IntWalk.i64_in _ (by omega)
  clear hB hgood hBl
  go_enter Tryd.func5, Tryd.ntmps5
  go_upto_region 1 with (fail)
  have hb1 := Blk.new W 29 (withCells enc mac nonce va)
  have hf1 := Fr.alloc W (.cells (withCells enc mac nonce va).toArray 29)
  have hs1 : (W.alloc (.cells (withCells enc mac nonce va).toArray 29)).heap.size = W.heap.size + 1 := by simp
  obtain ⟨P, hP⟩ : ∃ P, P = W.heap.size := ⟨_, rfl⟩
  rw [← hP] at hb1 hs1 ⊢
  generalize W.alloc (.cells (withCells enc mac nonce va).toArray 29) = w1 at hb1 hf1 hs1 ⊢
  have HP := Lib.hid (HWC.out _ _ _ hb1)
  have HF1 := Lib.hid hf1
  clear hb1 hs1 hf1 hP
  go_wp2_with fail
  refine (shown6_any _ (HT.out.non HF1.out)).mono ?_
  rintro e w2 ⟨rfl, hf2⟩
  have HF2 := Lib.hid (HF1.out.non hf2)
  have HP2 := Lib.hid (HP.out.non hf2)
  have hcn := HP2.out.2.2
  have hs1 := run_str (P := Tryd.prog) w2 27 9 5 _ _ (HV.out.non HF2.out) Tryd.underlying27 Tryd.underlying5 Tryd.underlying9
  clear hf2
  go_upto_region 3 with (fail)
  go_wp2_with ((with_reducible show wpList _ _ _ (({ op := .load _ _, .. } : Oper) :: _) _ _); first | (refine wpList_load_mid rfl 24 _ rfl P 0 rfl (keyCells enc mac) _ HP2.out.1 huk rfl hik ?_) | (refine wpList_load_mid rfl 26 _ rfl P 64 rfl (bs nonce) _ HP2.out.2.1 hun rfl hin ?_))
  refine (sealS_any enc mac nonce va v ad l w2 HL.out.1 HL.out.2.1 HL.out.2.2 (HVA.out.non HF2.out) (HV.out.non HF2.out) hal hl (HT.out.1.non HF2.out) (HT.out.2.non HF2.out)).mono ?_
  rintro e w3 ⟨v3, rfl, ho3, hf3⟩
  rw [← HB.out.1] at ho3
  have hlen3 := run_lenRow (P := Tryd.prog) ho3.row 27 5 Tryd.underlying27
  rw [bs_length, HB.out.2] at hlen3
  have HF3 := Lib.hid (HF2.out.non hf3)
  have HP3 := Lib.hid (HP2.out.non hf3)
  have HO3 := Lib.hid ho3
  clear hf3 ho3 hcn hs1
  have hcn := HP3.out.2.2
  go_upto_region 4 with (fail)
  go_wp2_with ((with_reducible show wpList _ _ _ (({ op := .load _ _, .. } : Oper) :: _) _ _); first | (refine wpList_load_mid rfl 24 _ rfl P 0 rfl (keyCells enc mac) _ HP3.out.1 huk rfl hik ?_) | (refine wpList_load_mid rfl 26 _ rfl P 64 rfl (bs nonce) _ HP3.out.2.1 hun rfl hin ?_))
  refine (openS_any enc mac nonce va v3 ad B w3 HL.out.1 HL.out.2.1 HL.out.2.2 (HVA.out.non HF3.out) HO3.out.row hal (by rw [HB.out.2]; omega) (HT.out.1.non HF3.out) (HT.out.2.non HF3.out)).mono ?_
  rintro e w4 ⟨v4, rfl, ho4, hf4⟩
  rw [HG.out.1] at ho4
  rw [HG.out.2]
  have hlen4 := run_lenRow (P := Tryd.prog) ho4.row 27 5 Tryd.underlying27
  rw [bs_length] at hlen4
  have HF4 := Lib.hid (HF3.out.non hf4)
  have HP4 := Lib.hid (HP3.out.non hf4)
  have HO4 := Lib.hid ho4
  have HB4 := Lib.hid (HO3.out.non hf4)
  have HF34 := Lib.hid hf4
  have HS4 := Lib.hid (show w3.heap.size ≤ w4.heap.size from hf4.size)
  have hs2 := run_str (P := Tryd.prog) w4 27 9 5 _ _ ho4.row Tryd.underlying27 Tryd.underlying5 Tryd.underlying9
  clear hf4 ho4 hcn
  go_wp2_with fail
  clear hs2
  go_loopw [54] (fun i wr => ∃ (k : Nat) (L : List UInt8), k ≤ l.length ∧ i = .int .i64 k ∧ L.length = l.length ∧ Own wr w3.heap.size 5 v4 (bs L) ∧ Fr (OwnOf v4) w4 wr) (fun i _ => l.length - (intOf i).toNat)
  case atStart => exact ⟨0, l, by omega, rfl, rfl, HO4.out, Fr.refl _ _⟩
  case round =>
    obtain ⟨k, L, hk, rfl, hLl, hox, hfx⟩ := hrel
    have HOX := Lib.hid hox
    have HFX := Lib.hid hfx
    have HLL := Lib.hid hLl
    clear hox hfx hLl
    by_cases hlt : k < l.length
    · obtain ⟨g, c, hv4, -, -⟩ := HO4.out.form (by rw [bs_length]; omega)
      rw [bs_length] at hv4
      subst hv4
      obtain ⟨cx, fx⟩ := HOX.out.cellAt k _ (bs_at? L k (by rw [HLL.out]; exact hlt))
      have z0 : (0 : Int) ≤ (k : Int) := by omega
      have z1 : (k : Int) < (l.length : Int) := by omega
      have hxx := u8xor L[k]! 255
      have g8 := L[k]!.toNat_lt
      have hset := HOX.out.set k (.int .u8 ((L[k]! ^^^ 255).toNat : Int))
      rw [bs_set] at hset
      have HSET := Lib.hid hset
      clear hset
      generalize L[k]! = x at cx hxx g8 HSET
      have h85 : ((255 : UInt8).toNat : Int) = 255 := rfl
      rw [h85] at hxx
      clear h85
      go_wp2
      go_roundw
      case rel => exact ⟨k + 1, L.set k (x ^^^ 255), by omega, by go_num, by rw [List.length_set]; exact HLL.out, HSET.out, HFX.out.trans (Fr.setCell wr ⟨g, k, none⟩ _) (fun _ h => h) (fun i h => .inl (by have h1 : i = g := h; rw [h1]; rfl))⟩
      case measure => simp [intOf]; omega
    · obtain rfl : k = l.length := by omega
      have hof : ∀ i, OwnOf v4 i → w3.heap.size ≤ i := fun i h => (HO4.out.lt i h).1
      have HB5 : Hid (Own wr w2.heap.size 5 v3 (bs B)) := Lib.hid (HB4.out.frame HFX.out (fun b off n c e h => by
        have h1 := HO4.out.lt b h
        have h2 := (HO3.out.lt b (by rw [e]; rfl)).2
        omega))
      have HFF := Lib.hid (HF4.out.new HFX.out (fun i h => by have h1 := hof i h; have h2 := HF3.out.size; omega))
      have HP5 : Hid (WithAt wr P enc mac nonce va) := Lib.hid (HP3.out.non (Fr.new (S := Non) (a := w3) (b := w4) HF34.out HFX.out hof))
      have hcn := HP5.out.2.2
      clear hof HOX HFX HLL
      go_upto_region 11 with (fail)
      go_wp2_with ((with_reducible show wpList _ _ _ (({ op := .load _ _, .. } : Oper) :: _) _ _); first | (refine wpList_load_mid rfl 24 _ rfl P 0 rfl (keyCells enc mac) _ HP5.out.1 huk rfl hik ?_) | (refine wpList_load_mid rfl 26 _ rfl P 64 rfl (bs nonce) _ HP5.out.2.1 hun rfl hin ?_))
      refine (openS_any enc mac nonce va v3 ad B wr HL.out.1 HL.out.2.1 HL.out.2.2 (HVA.out.non HFF.out) HB5.out.row hal (by rw [HB.out.2]; omega) (HT.out.1.non HFF.out) (HT.out.2.non HFF.out)).mono ?_
      rintro e w6 ⟨v6, rfl, ho6, hf6⟩
      rw [HG.out.1] at ho6
      rw [HG.out.2]
      have HF6 := Lib.hid (HFF.out.non hf6)
      have hs2 := run_str (P := Tryd.prog) w6 27 9 5 _ _ ho6.row Tryd.underlying27 Tryd.underlying5 Tryd.underlying9
      have hs1 := run_str (P := Tryd.prog) w6 27 9 5 _ _ (HV.out.non HF6.out) Tryd.underlying27 Tryd.underlying5 Tryd.underlying9
      clear hf6 ho6 hcn
      go_wp2_with fail
      go_ret
      exact ⟨rfl, HF6.out⟩
end Go.Proofs.YthfpkdbhihcniaaDoor
