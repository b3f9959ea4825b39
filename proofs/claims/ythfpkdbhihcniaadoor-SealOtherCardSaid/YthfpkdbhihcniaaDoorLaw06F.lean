/- layer 6: opened with something else -/
import Derived.Test.YthfpkdbhihcniaaDoorLaw06B

namespace Go.Proofs.YthfpkdbhihcniaaDoor
open Go.ChangeShapes Go.WideShapes Go.ChangeAt Go.RowKit

set_option maxRecDepth 100000 in
set_option maxHeartbeats 4000000 in
/-- P6.5 -/
theorem other6_any (W : World) (enc mac nonce ad : List UInt8) (va : Value) (enc2 mac2 nonce2 ad2 : List UInt8) (va2 : Value) (v : Value) (l : List UInt8) (hL : laidMetH Tryd.prog Rows.sealOtherRow.laid W) (he : enc.length = 32) (hmc : mac.length = 32) (hn : nonce.length = 12) (hva : Row W va (bs ad)) (hal : ad.length ≤ 140737488351232) (he2 : enc2.length = 32) (hmc2 : mac2.length = 32) (hn2 : nonce2.length = 12) (hva2 : Row W va2 (bs ad2)) (hal2 : ad2.length ≤ 140737488351232) (hv : Row W v (bs l)) (hl : l.length ≤ 140737488351232) :
    Calls Tryd.prog 7 #[.agg (withCells enc mac nonce va).toArray, .agg (withCells enc2 mac2 nonce2 va2).toArray, v] W fun e W' => e = .returned (.bool true) ∧ Fr Non W W' := by
  have HT := Lib.hid (seal_laid3 hL)
  have hlen := run_lenRow (P := Tryd.prog) hv 27 5 Tryd.underlying27
  rw [bs_length] at hlen
  have HV := Lib.hid hv
  have hid : (Tryd.prog.info? 32).map (·.size) = some 16 := by kernel_rfl
  have HID := Lib.hid hid
  clear hL hv hid
  have HL := Lib.hid (And.intro he (And.intro hmc hn))
  have HVA := Lib.hid hva
  have hik : (Tryd.prog.info? 24).map (·.size) = some (keyCells enc mac).length := by unfold keyCells; rw [List.length_append, bs_length, bs_length, he, hmc]; kernel_rfl
  have hin : (Tryd.prog.info? 26).map (·.size) = some (bs nonce).length := by rw [bs_length, hn]; kernel_rfl
  have HWC := Lib.hid (with_at (va := va) he hmc hn)
  clear he hmc hn hva
  have HL2 := Lib.hid (And.intro he2 (And.intro hmc2 hn2))
  have HVA2 := Lib.hid hva2
  have hik2 : (Tryd.prog.info? 24).map (·.size) = some (keyCells enc2 mac2).length := by unfold keyCells; rw [List.length_append, bs_length, bs_length, he2, hmc2]; kernel_rfl
  have hin2 : (Tryd.prog.info? 26).map (·.size) = some (bs nonce2).length := by rw [bs_length, hn2]; kernel_rfl
  have HWC2 := Lib.hid (with_at (va := va2) he2 hmc2 hn2)
  clear he2 hmc2 hn2 hva2
  have huk := Tryd.underlying24
  have hun := Tryd.underlying26
  have e16 : IntKind.i64.wrap ((l.length : Int) + 16) = (l.length : Int) + 16 := IntWalk.i64_in _ (by omega)
  go_enter Tryd.func7, Tryd.ntmps7
  go_upto_region 1 with (fail)
  have hb1 := Blk.new W 29 (withCells enc mac nonce va)
  have hf1 := Fr.alloc W (.cells (withCells enc mac nonce va).toArray 29)
  have hs1 : (W.alloc (.cells (withCells enc mac nonce va).toArray 29)).heap.size = W.heap.size + 1 := by simp
  obtain ⟨P, hP⟩ : ∃ P, P = W.heap.size := ⟨_, rfl⟩
  rw [← hP] at hb1 hs1 ⊢
  generalize W.alloc (.cells (withCells enc mac nonce va).toArray 29) = w0 at hb1 hf1 hs1 ⊢
  have HP := Lib.hid (HWC.out _ _ _ hb1)
  have HP0 := HP
  have hf0 := hf1
  have hs0 := hs1
  clear HP hb1 hf1 hs1
  have hb1 := Blk.new w0 29 (withCells enc2 mac2 nonce2 va2)
  have hf1 := Fr.alloc w0 (.cells (withCells enc2 mac2 nonce2 va2).toArray 29)
  have hs1 : (w0.alloc (.cells (withCells enc2 mac2 nonce2 va2).toArray 29)).heap.size = w0.heap.size + 1 := by simp
  obtain ⟨Q, hQ⟩ : ∃ Q, Q = w0.heap.size := ⟨_, rfl⟩
  rw [← hQ] at hb1 hs1
  generalize w0.alloc (.cells (withCells enc2 mac2 nonce2 va2).toArray 29) = w1 at hb1 hf1 hs1 ⊢
  have HQ := Lib.hid (HWC2.out _ _ _ hb1)
  have hPQ : Q = P + 1 := by omega
  rw [hPQ] at HQ
  have HF1 := Lib.hid (hf0.non hf1)
  have HP := Lib.hid (HP0.out.non hf1)
  have HPE := Lib.hid hP
  clear hb1 hs1 hf1 hP HP0 hf0 hs0 hQ hPQ Q
  go_wp2_with fail
  refine (shown6_any _ (HT.out.non HF1.out)).mono ?_
  rintro e w2 ⟨rfl, hf2⟩
  have HF2 := Lib.hid (HF1.out.non hf2)
  have HP2 := Lib.hid (HP.out.non hf2)
  have HQ2 := Lib.hid (HQ.out.non hf2)
  have hcn := HP2.out.2.2
  clear hf2
  go_upto_region 2 with (fail)
  go_wp2_with ((with_reducible show wpList _ _ _ (({ op := .load _ _, .. } : Oper) :: _) _ _); first | (refine wpList_load_mid rfl 24 _ rfl P 0 rfl (keyCells enc mac) _ HP2.out.1 huk rfl hik ?_) | (refine wpList_load_mid rfl 26 _ rfl P 64 rfl (bs nonce) _ HP2.out.2.1 hun rfl hin ?_))
  refine (sealS_any enc mac nonce va v ad l w2 HL.out.1 HL.out.2.1 HL.out.2.2 (HVA.out.non HF2.out) (HV.out.non HF2.out) hal hl (HT.out.1.non HF2.out) (HT.out.2.non HF2.out)).mono ?_
  rintro e w3 ⟨v3, rfl, ho3, hf3⟩
  have hBl := sealSeal_length enc mac nonce ad l
  generalize sealSeal enc mac nonce ad l = B at ho3 hBl
  have HF3 := Lib.hid (HF2.out.non hf3)
  have HQ3 := Lib.hid (HQ2.out.non hf3)
  have hr3 := ho3.row
  have HP3 := Lib.hid HP2.out
  clear ho3 hf3 hcn HP3
  have htold := seal_told mac2 nonce2 ad2 B l.length hBl
  have hlen3 := run_lenRow (P := Tryd.prog) hr3 27 5 Tryd.underlying27
  rw [bs_length, hBl] at hlen3
  obtain ⟨x1, rs1, hx1, -⟩ := run_subHi (P := Tryd.prog) hr3 27 5 Tryd.underlying27 (by kernel_rfl) .i64 l.length l.length rfl (by rw [bs_length]; omega)
  obtain ⟨x2, rs2, hx2, -⟩ := run_subLo (P := Tryd.prog) hr3 27 5 Tryd.underlying27 (by kernel_rfl) .i64 l.length l.length rfl (by rw [bs_length]; omega)
  have hx1' : Row w3 x1 (bs (B.take l.length)) := by simpa [bs, List.map_take] using hx1
  have hx2' : Row w3 x2 (bs (B.drop l.length)) := by simpa [bs, List.map_drop] using hx2
  have hl1 : (B.take l.length).length = l.length := by rw [List.length_take]; omega
  have HR3 := Lib.hid hr3
  have HBL := Lib.hid hBl
  have HTO := Lib.hid htold
  have HSL := Lib.hid (And.intro rs1 rs2)
  clear hx1 hx2 htold hBl hr3
  generalize B.take l.length = B1 at hx1' HTO hl1
  generalize B.drop l.length = B2 at hx2' HTO
  have HX1 := Lib.hid hx1'
  have HX2 := Lib.hid hx2'
  have HL1 := Lib.hid hl1
  clear hx1' hx2' hl1
  have hsl1 := HSL.out.1
  have hSa : (fun w' : World => w'.rangeAt (P + 1) 0 (keyCells enc2 mac2) ∧ w'.rangeAt (P + 1) 64 (bs nonce2) ∧ w'.cell? ⟨(P + 1), 76, none⟩ = some va2) w3.drew := HQ3.out.non (Fr.drew _)
  go_upto_region 5 with (fail)
  refine wp_region_held_drew (S := fun w' => w'.rangeAt (P + 1) 0 (keyCells enc2 mac2) ∧ w'.rangeAt (P + 1) 64 (bs nonce2) ∧ w'.cell? ⟨(P + 1), 76, none⟩ = some va2) (by kernel_rfl) hSa (fun hHeld => ?_)
  have hfd : Fr Non w3 w3.drew := Fr.drew _
  clear hSa
  generalize w3.drew = w4 at hfd hHeld ⊢
  have HF4 := Lib.hid (HF3.out.non hfd)
  have HX14 := Lib.hid (HX1.out.non hfd)
  have HX24 := Lib.hid (HX2.out.non hfd)
  have HR4 := Lib.hid (HR3.out.non hfd)
  have HQ4 := Lib.hid (HQ3.out.non hfd)
  clear hfd
  refine wpAnyH_takeL (i := 0) 27 (v := ?_) rfl rfl (by kernel_rfl) (by kernel_rfl) (by kernel_rfl) (fun _ _ _ h => h) (by assumption) (Or.inl ⟨by rfl, ?_⟩) ?_
  rotate_left
  · intro w hSw; go_simp; (try with_reducible rfl)
  simp only [List.set_cons_zero, List.set_cons_succ]
  refine wpAnyH_takeL (i := 1) 28 (v := .agg (keyCells enc2 mac2).toArray) rfl rfl (by kernel_rfl) (by kernel_rfl) (by kernel_rfl) (fun _ _ _ h => h) (by assumption) (yieldsIf_load_mid (by rfl) _ _ rfl (P + 1) (0) rfl (keyCells enc2 mac2) _ (fun w h => h.1) huk rfl hik2) ?_
  simp only [List.set_cons_zero, List.set_cons_succ]
  refine wpAnyH_takeL (i := 2) 29 (v := ?_) rfl rfl (by kernel_rfl) (by kernel_rfl) (by kernel_rfl) (fun _ _ _ h => h) (by assumption) (Or.inl ⟨by rfl, ?_⟩) ?_
  rotate_left
  · intro w hSw; go_simp; (try with_reducible rfl)
  simp only [List.set_cons_zero, List.set_cons_succ]
  refine wpAnyH_takeL (i := 3) 30 (v := .agg (bs nonce2).toArray) rfl rfl (by kernel_rfl) (by kernel_rfl) (by kernel_rfl) (fun _ _ _ h => h) (by assumption) (yieldsIf_load_mid (by rfl) _ _ rfl (P + 1) (64) rfl (bs nonce2) _ (fun w h => h.2.1) hun rfl hin2) ?_
  simp only [List.set_cons_zero, List.set_cons_succ]
  refine wpAnyH_takeL (i := 4) 31 (v := ?_) rfl rfl (by kernel_rfl) (by kernel_rfl) (by kernel_rfl) (fun _ _ _ h => h) (by assumption) (Or.inl ⟨by rfl, ?_⟩) ?_
  rotate_left
  · intro w hSw; go_simp; (try with_reducible rfl)
  simp only [List.set_cons_zero, List.set_cons_succ]
  refine wpAnyH_takeL (i := 5) 32 (v := ?_) rfl rfl (by kernel_rfl) (by kernel_rfl) (by kernel_rfl) (fun _ _ _ h => h) (by assumption) (Or.inl ⟨by rfl, ?_⟩) ?_
  rotate_left
  · intro w hSw; go_simp; (try with_reducible rfl)
  simp only [List.set_cons_zero, List.set_cons_succ]
  refine wpAnyH_takeL (i := 6) 33 (v := ?_) rfl rfl (by kernel_rfl) (by kernel_rfl) (by kernel_rfl) (fun _ _ _ h => h) (by assumption) (Or.inl ⟨by rfl, ?_⟩) ?_
  rotate_left
  · intro w hSw; go_simp; (try with_reducible rfl)
  simp only [List.set_cons_zero, List.set_cons_succ]
  refine wpAnyH_takeL (i := 7) 34 (v := ?_) rfl rfl (by kernel_rfl) (by kernel_rfl) (by kernel_rfl) (fun _ _ _ h => h) (by assumption) (Or.inl ⟨by rfl, ?_⟩) ?_
  rotate_left
  · intro w hSw; go_simp; (try with_reducible rfl)
  simp only [List.set_cons_zero, List.set_cons_succ]
  refine wpAnyH_takeL (i := 8) 35 (v := ?_) rfl rfl (by kernel_rfl) (by kernel_rfl) (by kernel_rfl) (fun _ _ _ h => h) (by assumption) (Or.inl ⟨by rfl, ?_⟩) ?_
  rotate_left
  · intro w hSw; go_simp; (try with_reducible rfl)
  simp only [List.set_cons_zero, List.set_cons_succ]
  refine wpAnyH_takeL (i := 9) 36 (v := ?_) rfl rfl (by kernel_rfl) (by kernel_rfl) (by kernel_rfl) (fun _ _ _ h => h) (by assumption) (Or.inl ⟨by rfl, ?_⟩) ?_
  rotate_left
  · intro w hSw; go_simp; (try with_reducible rfl)
  simp only [List.set_cons_zero, List.set_cons_succ]
  refine wpAnyH_ready (rs := [10, 11]) (by kernel_rfl) (by simp) ?_
  refine AllReadyH.cons (o := ⟨some 37, _, _, _, _, _⟩) rfl (fun K hK => ?_) (AllReadyH.cons (o := ⟨some 9, _, _, _, _, _⟩) rfl (fun K hK => ?_) (AllReadyH.nil))
  · skip
    go_simp
    go_wp2_with (go_at_call 11; refine (tagS_any enc2 mac2 nonce2 va2 x1 ad2 B1 _ HL2.out.1 HL2.out.2.1 HL2.out.2.2 (HVA2.out.non (HF4.out.non (Fr.refl _ _))) (HX14.out.non (Fr.refl _ _)) hal2 (by rw [HL1.out]; exact hl) (HT.out.1.non (HF4.out.non (Fr.refl _ _)))).mono ?_; rintro e r1 ⟨rfl, hf1⟩)
    have htl := sealTag_length mac2 nonce2 ad2 B1
    have F1 : Hid (Fr Non w4 r1) := Lib.hid hf1
    clear hf1
    generalize sealTag mac2 nonce2 ad2 B1 = T at HTO htl ⊢
    have HTL := Lib.hid htl
    clear htl
    refine hK.out _ _ (HQ4.out.non F1.out) (fun hHeld => ?_)
    clear hK K
    refine wpAnyH_ready (rs := [11]) (by kernel_rfl) (by simp) ?_
    refine AllReadyH.cons (o := ⟨some 9, _, _, _, _, _⟩) rfl (fun K hK => ?_) (AllReadyH.nil)
    go_simp
    obtain ⟨X, hX⟩ : ∃ X, X = r1.heap.size := ⟨_, rfl⟩
    have hXW : W.heap.size ≤ X := by have h2 := Fr.size (S := Non) (w := W) (HF4.out.non F1.out); omega
    have hX4 : w4.heap.size ≤ X := by have h2 := Fr.size (S := Non) (w := w4) F1.out; omega
    obtain ⟨r2, hw2⟩ : ∃ w', w' = r1.alloc (.cells #[.int .u8 0, .int .u8 0, .int .u8 0, .int .u8 0, .int .u8 0, .int .u8 0, .int .u8 0, .int .u8 0, .int .u8 0, .int .u8 0, .int .u8 0, .int .u8 0, .int .u8 0, .int .u8 0, .int .u8 0, .int .u8 0] 32) := ⟨_, rfl⟩
    rw [← hw2]
    have F2 : Hid (Fr Non r1 r2) := Lib.hid (by rw [hw2]; exact Fr.alloc _ _)
    have BX : Hid (Blk r2 X 32 (bs (List.replicate 16 0))) := Lib.hid (by rw [hw2]; exact by rw [hX]; exact Blk.new _ _ _)
    clear hw2
    rw [← hX]
    have HXX := Lib.hid (And.intro hXW hX4)
    clear hX hXW hX4
    refine hK.out _ _ (HQ4.out.non (F1.out.non F2.out)) (fun hHeld => ?_)
    clear hK K
    refine wpAnyH_ready (rs := [12]) (by kernel_rfl) (by simp) ?_
    refine AllReadyH.cons (o := ⟨none, _, _, _, _, _⟩) rfl (fun K hK => ?_) (AllReadyH.nil)
    rw [if_pos (by rfl)]
    have hbx := BX.out.non (Fr.refl _ _)
    have hdl : (bs T).toArray.size = 16 := by rw [List.size_toArray, bs_length, HTL.out]
    refine wp_store_mid 32 (.tmp 9) (.tmp 37) rfl X 0 (bs T).toArray rfl rfl (by rw [hdl]; exact hbx.there 0 16 (by simp [bs_length])) (by rw [hdl]; exact HID.out) (all_oneCell_toArray (bs_one T)) ?_
    have hst := Blk.setCells (bs T) _ _ 0 hbx (by simp [bs_length, HTL.out])
    have hfs := Fr.setCells' X (bs T) r2 0
    rw [splice_all _ _ (by simp [bs_length, HTL.out])] at hst
    have hfw : Fr Non w4 r2 := (F1.out.non F2.out)
    obtain ⟨z5, hz5⟩ : ∃ z5, z5 = r2.setCells X 0 (bs T).toArray.toList := ⟨_, rfl⟩
    rw [show (bs T) = (bs T).toArray.toList from rfl, ← hz5] at hst hfs
    rw [← hz5]
    have HST := Lib.hid hst
    have HFW := Lib.hid (hfw.new hfs (fun i h => by have h1 : i = X := h; have h2 := HXX.out.2; omega))
    clear hst hfs hfw hbx hdl hz5
    simp only [Act.put]
    refine hK.out _ _ (HQ4.out.non HFW.out) (fun hHeld => ?_)
    clear hK K
    refine wpAnyH_done (by kernel_rfl) ?_ _
    clear hHeld hsl1
    have HF5 := Lib.hid (HF4.out.non HFW.out)
    have HQ5 := Lib.hid (HQ4.out.non HFW.out)
    have HTX := Lib.hid (HST.out.part 0 16 T HTL.out (by unfold maxLen; omega) (fun j v hj => by rw [Nat.zero_add]; exact hj))
    have HR5 := Lib.hid (HR4.out.non HFW.out)
    have HX25 := Lib.hid (HX24.out.non HFW.out)
    have hcn := HQ5.out.2.2
    go_upto_region 6 with (fail)
    go_wp2_with ((with_reducible show wpList _ _ _ (({ op := .load _ _, .. } : Oper) :: _) _ _); first | (refine wpList_load_mid rfl 24 _ rfl (P + 1) 0 rfl (keyCells enc2 mac2) _ HQ5.out.1 huk rfl hik2 ?_) | (refine wpList_load_mid rfl 26 _ rfl (P + 1) 64 rfl (bs nonce2) _ HQ5.out.2.1 hun rfl hin2 ?_))
    refine (openS_any enc2 mac2 nonce2 va2 v3 ad2 B z5 HL2.out.1 HL2.out.2.1 HL2.out.2.2 (HVA2.out.non HF5.out) HR5.out hal2 (by rw [HBL.out]; omega) (HT.out.1.non HF5.out) (HT.out.2.non HF5.out)).mono ?_
    rintro e z6 ⟨v6, rfl, -, hf6⟩
    have HF6 := Lib.hid (HF5.out.non hf6)
    have HT6 := Lib.hid (HTX.out.non hf6)
    have HX6 := Lib.hid (HX25.out.non hf6)
    clear hf6 hcn
    have hsl2 := HSL.out.2
    have hsl1 := HSL.out.1
    by_cases hg : sealGood mac2 nonce2 ad2 B = true
    case pos =>
      have htb := HTO.out.symm.trans hg
      have her := (out_good (enc := enc2) hg).2
      rw [her]
      have hSb : (fun w' : World => Row w' (.slice (some ⟨X, 0, none⟩) 16 16) (bs T) ∧ Row w' x2 (bs B2)) z6.drew := ⟨HT6.out.non (Fr.drew _), HX6.out.non (Fr.drew _)⟩
      go_upto_region 7 with (fail)
      refine wp_region_held_drew (S := fun w' => Row w' (.slice (some ⟨X, 0, none⟩) 16 16) (bs T) ∧ Row w' x2 (bs B2)) (by kernel_rfl) hSb (fun hHeld => ?_)
      refine wpAnyH_takeL (i := 0) 49 (v := ?_) rfl rfl (by kernel_rfl) (by kernel_rfl) (by kernel_rfl) (fun _ _ _ h => h) (by assumption) (Or.inl ⟨by rfl, ?_⟩) ?_
      rotate_left
      · intro w hSw; go_simp; (try with_reducible rfl)
      simp only [List.set_cons_zero, List.set_cons_succ]
      refine wpAnyH_takeL (i := 1) 50 (v := ?_) rfl rfl (by kernel_rfl) (by kernel_rfl) (by kernel_rfl) (fun _ _ _ h => h) (by assumption) (Or.inl ⟨by rfl, ?_⟩) ?_
      rotate_left
      · intro w hSw; go_simp; (try with_reducible rfl)
      simp only [List.set_cons_zero, List.set_cons_succ]
      refine wpAnyH_takeL (i := 2) 51 (v := ?_) rfl rfl (by kernel_rfl) (by kernel_rfl) (by kernel_rfl) (fun _ _ _ h => h) (by assumption) (Or.inl ⟨by rfl, ?_⟩) ?_
      rotate_left
      · intro w hSw; go_simp; (try with_reducible rfl)
      simp only [List.set_cons_zero, List.set_cons_succ]
      refine wpAnyH_takeL (i := 3) 52 (v := ?_) rfl rfl (by kernel_rfl) (by kernel_rfl) (by kernel_rfl) (fun _ _ _ h => h) (by assumption) (Or.inl ⟨by rfl, ?_⟩) ?_
      rotate_left
      · intro w hSw; go_simp; (try with_reducible rfl)
      simp only [List.set_cons_zero, List.set_cons_succ]
      refine wpAnyH_takeL (i := 4) 53 (v := ?_) rfl rfl (by kernel_rfl) (by kernel_rfl) (by kernel_rfl) (fun _ _ _ h => h) (by assumption) (Or.inl ⟨by rfl, ?_⟩) ?_
      rotate_left
      · intro w hSw; go_simp; (try with_reducible rfl)
      simp only [List.set_cons_zero, List.set_cons_succ]
      refine wpAnyH_takeL (i := 5) 54 (v := .string ⟨T.toArray⟩) rfl rfl (by kernel_rfl) (by kernel_rfl) (by kernel_rfl) (fun _ _ _ h => h) (by assumption) (Or.inl ⟨by rfl, ?_⟩) ?_
      · intro w hSw; have hx := run_str (P := Tryd.prog) w 27 9 5 _ _ hSw.1 Tryd.underlying27 Tryd.underlying5 Tryd.underlying9; go_simp
      simp only [List.set_cons_zero, List.set_cons_succ]
      refine wpAnyH_takeL (i := 6) 55 (v := ?_) rfl rfl (by kernel_rfl) (by kernel_rfl) (by kernel_rfl) (fun _ _ _ h => h) (by assumption) (Or.inl ⟨by rfl, ?_⟩) ?_
      rotate_left
      · intro w hSw; go_simp; (try with_reducible rfl)
      simp only [List.set_cons_zero, List.set_cons_succ]
      refine wpAnyH_takeL (i := 7) 56 (v := ?_) rfl rfl (by kernel_rfl) (by kernel_rfl) (by kernel_rfl) (fun _ _ _ h => h) (by assumption) (Or.inl ⟨by rfl, ?_⟩) ?_
      rotate_left
      · intro w hSw; go_simp; (try with_reducible rfl)
      simp only [List.set_cons_zero, List.set_cons_succ]
      refine wpAnyH_takeL (i := 8) 57 (v := ?_) rfl rfl (by kernel_rfl) (by kernel_rfl) (by kernel_rfl) (fun _ _ _ h => h) (by assumption) (Or.inl ⟨by rfl, ?_⟩) ?_
      rotate_left
      · intro w hSw; go_simp; (try with_reducible rfl)
      simp only [List.set_cons_zero, List.set_cons_succ]
      refine wpAnyH_takeL (i := 9) 58 (v := ?_) rfl rfl (by kernel_rfl) (by kernel_rfl) (by kernel_rfl) (fun _ _ _ h => h) (by assumption) (Or.inl ⟨by rfl, ?_⟩) ?_
      rotate_left
      · intro w hSw; go_simp; (try with_reducible rfl)
      simp only [List.set_cons_zero, List.set_cons_succ]
      refine wpAnyH_takeL (i := 10) 59 (v := .string ⟨B2.toArray⟩) rfl rfl (by kernel_rfl) (by kernel_rfl) (by kernel_rfl) (fun _ _ _ h => h) (by assumption) (Or.inl ⟨by rfl, ?_⟩) ?_
      · intro w hSw; have hx := run_str (P := Tryd.prog) w 27 9 5 _ _ hSw.2 Tryd.underlying27 Tryd.underlying5 Tryd.underlying9; go_simp
      simp only [List.set_cons_zero, List.set_cons_succ]
      refine wpAnyH_takeL (i := 11) 60 (v := ?_) rfl rfl (by kernel_rfl) (by kernel_rfl) (by kernel_rfl) (fun _ _ _ h => h) (by assumption) (Or.inl ⟨by rfl, ?_⟩) ?_
      rotate_left
      · intro w hSw; go_simp; (try with_reducible rfl)
      simp only [List.set_cons_zero, List.set_cons_succ]
      refine wpAnyH_takeL (i := 12) 61 (v := ?_) rfl rfl (by kernel_rfl) (by kernel_rfl) (by kernel_rfl) (fun _ _ _ h => h) (by assumption) (Or.inl ⟨by rfl, ?_⟩) ?_
      rotate_left
      · intro w hSw; go_simp; (try with_reducible rfl)
      simp only [List.set_cons_zero, List.set_cons_succ]
      refine wpAnyH_takeL (i := 13) 62 (v := ?_) rfl rfl (by kernel_rfl) (by kernel_rfl) (by kernel_rfl) (fun _ _ _ h => h) (by assumption) (Or.inl ⟨by rfl, ?_⟩) ?_
      rotate_left
      · intro w hSw; go_simp; (try with_reducible rfl)
      simp only [List.set_cons_zero, List.set_cons_succ]
      refine wpAnyH_takeL (i := 14) 63 (v := ?_) rfl rfl (by kernel_rfl) (by kernel_rfl) (by kernel_rfl) (fun _ _ _ h => h) (by assumption) (Or.inl ⟨by rfl, ?_⟩) ?_
      rotate_left
      · intro w hSw; go_simp; (try with_reducible rfl)
      simp only [List.set_cons_zero, List.set_cons_succ]
      refine wpAnyH_takeL (i := 15) 64 (v := ?_) rfl rfl (by kernel_rfl) (by kernel_rfl) (by kernel_rfl) (fun _ _ _ h => h) (by assumption) (Or.inl ⟨by rfl, ?_⟩) ?_
      rotate_left
      · intro w hSw; go_simp; (try with_reducible rfl)
      simp only [List.set_cons_zero, List.set_cons_succ]
      refine wpAnyH_takeL (i := 16) 65 (v := ?_) rfl rfl (by kernel_rfl) (by kernel_rfl) (by kernel_rfl) (fun _ _ _ h => h) (by assumption) (Or.inl ⟨by rfl, ?_⟩) ?_
      rotate_left
      · intro w hSw; go_simp; (try with_reducible rfl)
      simp only [List.set_cons_zero, List.set_cons_succ]
      refine wpAnyH_takeL (i := 17) 66 (v := ?_) rfl rfl (by kernel_rfl) (by kernel_rfl) (by kernel_rfl) (fun _ _ _ h => h) (by assumption) (Or.inl ⟨by rfl, ?_⟩) ?_
      rotate_left
      · intro w hSw; go_simp; (try with_reducible rfl)
      simp only [List.set_cons_zero, List.set_cons_succ]
      refine wpAnyH_takeL (i := 18) 67 (v := undef) rfl rfl (by kernel_rfl) (by kernel_rfl) (by kernel_rfl) (fun _ _ _ h => h) (by assumption) (Or.inr ⟨by rfl, rfl⟩) ?_
      simp only [List.set_cons_zero, List.set_cons_succ]
      refine wpAnyH_takeL (i := 19) 68 (v := undef) rfl rfl (by kernel_rfl) (by kernel_rfl) (by kernel_rfl) (fun _ _ _ h => h) (by assumption) (Or.inr ⟨by rfl, rfl⟩) ?_
      simp only [List.set_cons_zero, List.set_cons_succ]
      refine wpAnyH_takeL (i := 20) 69 (v := ?_) rfl rfl (by kernel_rfl) (by kernel_rfl) (by kernel_rfl) (fun _ _ _ h => h) (by assumption) (Or.inl ⟨by rfl, ?_⟩) ?_
      rotate_left
      · intro w hSw; go_simp; (try with_reducible rfl)
      simp only [List.set_cons_zero, List.set_cons_succ]
      refine wpAnyH_takeL (i := 21) 70 (v := ?_) rfl rfl (by kernel_rfl) (by kernel_rfl) (by kernel_rfl) (fun _ _ _ h => h) (by assumption) (Or.inl ⟨by rfl, ?_⟩) ?_
      rotate_left
      · intro w hSw; go_simp; (try with_reducible rfl)
      simp only [List.set_cons_zero, List.set_cons_succ]
      refine wpAnyH_takeL (i := 22) 6 (v := ?_) rfl rfl (by kernel_rfl) (by kernel_rfl) (by kernel_rfl) (fun _ _ _ h => h) (by assumption) (Or.inl ⟨by rfl, ?_⟩) ?_
      rotate_left
      · intro w hSw; go_simp; (try with_reducible rfl)
      simp only [List.set_cons_zero, List.set_cons_succ]
      refine wpAnyH_done (by kernel_rfl) ?_ _
      go_wp2_with fail
      go_ret
      exact ⟨rfl, HF6.out.non (Fr.drew _)⟩
    case neg =>
      have hgf : sealGood mac2 nonce2 ad2 B = false := by simpa using hg
      have htb := HTO.out.symm.trans hgf
      have her := (out_bad (enc := enc2) hgf).2
      rw [her]
      have hSb : (fun w' : World => Row w' (.slice (some ⟨X, 0, none⟩) 16 16) (bs T) ∧ Row w' x2 (bs B2)) z6.drew := ⟨HT6.out.non (Fr.drew _), HX6.out.non (Fr.drew _)⟩
      go_upto_region 7 with (fail)
      refine wp_region_held_drew (S := fun w' => Row w' (.slice (some ⟨X, 0, none⟩) 16 16) (bs T) ∧ Row w' x2 (bs B2)) (by kernel_rfl) hSb (fun hHeld => ?_)
      refine wpAnyH_takeL (i := 0) 49 (v := ?_) rfl rfl (by kernel_rfl) (by kernel_rfl) (by kernel_rfl) (fun _ _ _ h => h) (by assumption) (Or.inl ⟨by rfl, ?_⟩) ?_
      rotate_left
      · intro w hSw; go_simp; (try with_reducible rfl)
      simp only [List.set_cons_zero, List.set_cons_succ]
      refine wpAnyH_takeL (i := 1) 50 (v := ?_) rfl rfl (by kernel_rfl) (by kernel_rfl) (by kernel_rfl) (fun _ _ _ h => h) (by assumption) (Or.inl ⟨by rfl, ?_⟩) ?_
      rotate_left
      · intro w hSw; go_simp; (try with_reducible rfl)
      simp only [List.set_cons_zero, List.set_cons_succ]
      refine wpAnyH_takeL (i := 2) 51 (v := ?_) rfl rfl (by kernel_rfl) (by kernel_rfl) (by kernel_rfl) (fun _ _ _ h => h) (by assumption) (Or.inl ⟨by rfl, ?_⟩) ?_
      rotate_left
      · intro w hSw; go_simp; (try with_reducible rfl)
      simp only [List.set_cons_zero, List.set_cons_succ]
      refine wpAnyH_takeL (i := 3) 52 (v := ?_) rfl rfl (by kernel_rfl) (by kernel_rfl) (by kernel_rfl) (fun _ _ _ h => h) (by assumption) (Or.inl ⟨by rfl, ?_⟩) ?_
      rotate_left
      · intro w hSw; go_simp; (try with_reducible rfl)
      simp only [List.set_cons_zero, List.set_cons_succ]
      refine wpAnyH_takeL (i := 4) 53 (v := ?_) rfl rfl (by kernel_rfl) (by kernel_rfl) (by kernel_rfl) (fun _ _ _ h => h) (by assumption) (Or.inl ⟨by rfl, ?_⟩) ?_
      rotate_left
      · intro w hSw; go_simp; (try with_reducible rfl)
      simp only [List.set_cons_zero, List.set_cons_succ]
      refine wpAnyH_takeL (i := 5) 54 (v := .string ⟨T.toArray⟩) rfl rfl (by kernel_rfl) (by kernel_rfl) (by kernel_rfl) (fun _ _ _ h => h) (by assumption) (Or.inl ⟨by rfl, ?_⟩) ?_
      · intro w hSw; have hx := run_str (P := Tryd.prog) w 27 9 5 _ _ hSw.1 Tryd.underlying27 Tryd.underlying5 Tryd.underlying9; go_simp
      simp only [List.set_cons_zero, List.set_cons_succ]
      refine wpAnyH_takeL (i := 6) 55 (v := ?_) rfl rfl (by kernel_rfl) (by kernel_rfl) (by kernel_rfl) (fun _ _ _ h => h) (by assumption) (Or.inl ⟨by rfl, ?_⟩) ?_
      rotate_left
      · intro w hSw; go_simp; (try with_reducible rfl)
      simp only [List.set_cons_zero, List.set_cons_succ]
      refine wpAnyH_takeL (i := 7) 56 (v := ?_) rfl rfl (by kernel_rfl) (by kernel_rfl) (by kernel_rfl) (fun _ _ _ h => h) (by assumption) (Or.inl ⟨by rfl, ?_⟩) ?_
      rotate_left
      · intro w hSw; go_simp; (try with_reducible rfl)
      simp only [List.set_cons_zero, List.set_cons_succ]
      refine wpAnyH_takeL (i := 8) 57 (v := ?_) rfl rfl (by kernel_rfl) (by kernel_rfl) (by kernel_rfl) (fun _ _ _ h => h) (by assumption) (Or.inl ⟨by rfl, ?_⟩) ?_
      rotate_left
      · intro w hSw; go_simp; (try with_reducible rfl)
      simp only [List.set_cons_zero, List.set_cons_succ]
      refine wpAnyH_takeL (i := 9) 58 (v := ?_) rfl rfl (by kernel_rfl) (by kernel_rfl) (by kernel_rfl) (fun _ _ _ h => h) (by assumption) (Or.inl ⟨by rfl, ?_⟩) ?_
      rotate_left
      · intro w hSw; go_simp; (try with_reducible rfl)
      simp only [List.set_cons_zero, List.set_cons_succ]
      refine wpAnyH_takeL (i := 10) 59 (v := .string ⟨B2.toArray⟩) rfl rfl (by kernel_rfl) (by kernel_rfl) (by kernel_rfl) (fun _ _ _ h => h) (by assumption) (Or.inl ⟨by rfl, ?_⟩) ?_
      · intro w hSw; have hx := run_str (P := Tryd.prog) w 27 9 5 _ _ hSw.2 Tryd.underlying27 Tryd.underlying5 Tryd.underlying9; go_simp
      simp only [List.set_cons_zero, List.set_cons_succ]
      refine wpAnyH_takeL (i := 11) 60 (v := ?_) rfl rfl (by kernel_rfl) (by kernel_rfl) (by kernel_rfl) (fun _ _ _ h => h) (by assumption) (Or.inl ⟨by rfl, ?_⟩) ?_
      rotate_left
      · intro w hSw; go_simp; (try with_reducible rfl)
      simp only [List.set_cons_zero, List.set_cons_succ]
      refine wpAnyH_takeL (i := 12) 61 (v := ?_) rfl rfl (by kernel_rfl) (by kernel_rfl) (by kernel_rfl) (fun _ _ _ h => h) (by assumption) (Or.inl ⟨by rfl, ?_⟩) ?_
      rotate_left
      · intro w hSw; go_simp; (try with_reducible rfl)
      simp only [List.set_cons_zero, List.set_cons_succ]
      refine wpAnyH_takeL (i := 13) 62 (v := ?_) rfl rfl (by kernel_rfl) (by kernel_rfl) (by kernel_rfl) (fun _ _ _ h => h) (by assumption) (Or.inl ⟨by rfl, ?_⟩) ?_
      rotate_left
      · intro w hSw; go_simp; (try with_reducible rfl)
      simp only [List.set_cons_zero, List.set_cons_succ]
      refine wpAnyH_takeL (i := 14) 63 (v := ?_) rfl rfl (by kernel_rfl) (by kernel_rfl) (by kernel_rfl) (fun _ _ _ h => h) (by assumption) (Or.inl ⟨by rfl, ?_⟩) ?_
      rotate_left
      · intro w hSw; go_simp; (try with_reducible rfl)
      simp only [List.set_cons_zero, List.set_cons_succ]
      refine wpAnyH_takeL (i := 15) 64 (v := ?_) rfl rfl (by kernel_rfl) (by kernel_rfl) (by kernel_rfl) (fun _ _ _ h => h) (by assumption) (Or.inl ⟨by rfl, ?_⟩) ?_
      rotate_left
      · intro w hSw; go_simp; (try with_reducible rfl)
      simp only [List.set_cons_zero, List.set_cons_succ]
      refine wpAnyH_takeL (i := 16) 65 (v := ?_) rfl rfl (by kernel_rfl) (by kernel_rfl) (by kernel_rfl) (fun _ _ _ h => h) (by assumption) (Or.inl ⟨by rfl, ?_⟩) ?_
      rotate_left
      · intro w hSw; go_simp; (try with_reducible rfl)
      simp only [List.set_cons_zero, List.set_cons_succ]
      refine wpAnyH_takeL (i := 17) 66 (v := ?_) rfl rfl (by kernel_rfl) (by kernel_rfl) (by kernel_rfl) (fun _ _ _ h => h) (by assumption) (Or.inl ⟨by rfl, ?_⟩) ?_
      rotate_left
      · intro w hSw; go_simp; (try with_reducible rfl)
      simp only [List.set_cons_zero, List.set_cons_succ]
      refine wpAnyH_takeL (i := 18) 67 (v := ?_) rfl rfl (by kernel_rfl) (by kernel_rfl) (by kernel_rfl) (fun _ _ _ h => h) (by assumption) (Or.inl ⟨by rfl, ?_⟩) ?_
      rotate_left
      · intro w hSw; go_simp; (try with_reducible rfl)
      simp only [List.set_cons_zero, List.set_cons_succ]
      refine wpAnyH_takeL (i := 19) 68 (v := ?_) rfl rfl (by kernel_rfl) (by kernel_rfl) (by kernel_rfl) (fun _ _ _ h => h) (by assumption) (Or.inl ⟨by rfl, ?_⟩) ?_
      rotate_left
      · intro w hSw; go_simp; (try with_reducible rfl)
      simp only [List.set_cons_zero, List.set_cons_succ]
      refine wpAnyH_takeL (i := 20) 69 (v := ?_) rfl rfl (by kernel_rfl) (by kernel_rfl) (by kernel_rfl) (fun _ _ _ h => h) (by assumption) (Or.inl ⟨by rfl, ?_⟩) ?_
      rotate_left
      · intro w hSw; go_simp; (try with_reducible rfl)
      simp only [List.set_cons_zero, List.set_cons_succ]
      refine wpAnyH_takeL (i := 21) 70 (v := ?_) rfl rfl (by kernel_rfl) (by kernel_rfl) (by kernel_rfl) (fun _ _ _ h => h) (by assumption) (Or.inl ⟨by rfl, ?_⟩) ?_
      rotate_left
      · intro w hSw; go_simp; (try with_reducible rfl)
      simp only [List.set_cons_zero, List.set_cons_succ]
      refine wpAnyH_takeL (i := 22) 6 (v := ?_) rfl rfl (by kernel_rfl) (by kernel_rfl) (by kernel_rfl) (fun _ _ _ h => h) (by assumption) (Or.inl ⟨by rfl, ?_⟩) ?_
      rotate_left
      · intro w hSw; go_simp; (try with_reducible rfl)
      simp only [List.set_cons_zero, List.set_cons_succ]
      refine wpAnyH_done (by kernel_rfl) ?_ _
      go_wp2_with fail
      go_ret
      exact ⟨rfl, HF6.out.non (Fr.drew _)⟩
  · skip
    go_simp
    obtain ⟨X, hX⟩ : ∃ X, X = w4.heap.size := ⟨_, rfl⟩
    have hXW : W.heap.size ≤ X := by have h2 := Fr.size (S := Non) (w := W) (HF4.out.non (Fr.refl _ _)); omega
    have hX4 : w4.heap.size ≤ X := by have h2 := Fr.size (S := Non) (w := w4) (Fr.refl _ _); omega
    obtain ⟨r1, hw1⟩ : ∃ w', w' = w4.alloc (.cells #[.int .u8 0, .int .u8 0, .int .u8 0, .int .u8 0, .int .u8 0, .int .u8 0, .int .u8 0, .int .u8 0, .int .u8 0, .int .u8 0, .int .u8 0, .int .u8 0, .int .u8 0, .int .u8 0, .int .u8 0, .int .u8 0] 32) := ⟨_, rfl⟩
    rw [← hw1]
    have F1 : Hid (Fr Non w4 r1) := Lib.hid (by rw [hw1]; exact Fr.alloc _ _)
    have BX : Hid (Blk r1 X 32 (bs (List.replicate 16 0))) := Lib.hid (by rw [hw1]; exact by rw [hX]; exact Blk.new _ _ _)
    clear hw1
    rw [← hX]
    have HXX := Lib.hid (And.intro hXW hX4)
    clear hX hXW hX4
    refine hK.out _ _ (HQ4.out.non F1.out) (fun hHeld => ?_)
    clear hK K
    refine wpAnyH_ready (rs := [10]) (by kernel_rfl) (by simp) ?_
    refine AllReadyH.cons (o := ⟨some 37, _, _, _, _, _⟩) rfl (fun K hK => ?_) (AllReadyH.nil)
    go_simp
    go_wp2_with (go_at_call 11; refine (tagS_any enc2 mac2 nonce2 va2 x1 ad2 B1 _ HL2.out.1 HL2.out.2.1 HL2.out.2.2 (HVA2.out.non (HF4.out.non F1.out)) (HX14.out.non F1.out) hal2 (by rw [HL1.out]; exact hl) (HT.out.1.non (HF4.out.non F1.out))).mono ?_; rintro e r2 ⟨rfl, hf2⟩)
    have htl := sealTag_length mac2 nonce2 ad2 B1
    have F2 : Hid (Fr Non r1 r2) := Lib.hid hf2
    clear hf2
    generalize sealTag mac2 nonce2 ad2 B1 = T at HTO htl ⊢
    have HTL := Lib.hid htl
    clear htl
    refine hK.out _ _ (HQ4.out.non (F1.out.non F2.out)) (fun hHeld => ?_)
    clear hK K
    refine wpAnyH_ready (rs := [12]) (by kernel_rfl) (by simp) ?_
    refine AllReadyH.cons (o := ⟨none, _, _, _, _, _⟩) rfl (fun K hK => ?_) (AllReadyH.nil)
    rw [if_pos (by rfl)]
    have hbx := BX.out.non F2.out
    have hdl : (bs T).toArray.size = 16 := by rw [List.size_toArray, bs_length, HTL.out]
    refine wp_store_mid 32 (.tmp 9) (.tmp 37) rfl X 0 (bs T).toArray rfl rfl (by rw [hdl]; exact hbx.there 0 16 (by simp [bs_length])) (by rw [hdl]; exact HID.out) (all_oneCell_toArray (bs_one T)) ?_
    have hst := Blk.setCells (bs T) _ _ 0 hbx (by simp [bs_length, HTL.out])
    have hfs := Fr.setCells' X (bs T) r2 0
    rw [splice_all _ _ (by simp [bs_length, HTL.out])] at hst
    have hfw : Fr Non w4 r2 := (F1.out.non F2.out)
    obtain ⟨z5, hz5⟩ : ∃ z5, z5 = r2.setCells X 0 (bs T).toArray.toList := ⟨_, rfl⟩
    rw [show (bs T) = (bs T).toArray.toList from rfl, ← hz5] at hst hfs
    rw [← hz5]
    have HST := Lib.hid hst
    have HFW := Lib.hid (hfw.new hfs (fun i h => by have h1 : i = X := h; have h2 := HXX.out.2; omega))
    clear hst hfs hfw hbx hdl hz5
    simp only [Act.put]
    refine hK.out _ _ (HQ4.out.non HFW.out) (fun hHeld => ?_)
    clear hK K
    refine wpAnyH_done (by kernel_rfl) ?_ _
    clear hHeld hsl1
    have HF5 := Lib.hid (HF4.out.non HFW.out)
    have HQ5 := Lib.hid (HQ4.out.non HFW.out)
    have HTX := Lib.hid (HST.out.part 0 16 T HTL.out (by unfold maxLen; omega) (fun j v hj => by rw [Nat.zero_add]; exact hj))
    have HR5 := Lib.hid (HR4.out.non HFW.out)
    have HX25 := Lib.hid (HX24.out.non HFW.out)
    have hcn := HQ5.out.2.2
    go_upto_region 6 with (fail)
    go_wp2_with ((with_reducible show wpList _ _ _ (({ op := .load _ _, .. } : Oper) :: _) _ _); first | (refine wpList_load_mid rfl 24 _ rfl (P + 1) 0 rfl (keyCells enc2 mac2) _ HQ5.out.1 huk rfl hik2 ?_) | (refine wpList_load_mid rfl 26 _ rfl (P + 1) 64 rfl (bs nonce2) _ HQ5.out.2.1 hun rfl hin2 ?_))
    refine (openS_any enc2 mac2 nonce2 va2 v3 ad2 B z5 HL2.out.1 HL2.out.2.1 HL2.out.2.2 (HVA2.out.non HF5.out) HR5.out hal2 (by rw [HBL.out]; omega) (HT.out.1.non HF5.out) (HT.out.2.non HF5.out)).mono ?_
    rintro e z6 ⟨v6, rfl, -, hf6⟩
    have HF6 := Lib.hid (HF5.out.non hf6)
    have HT6 := Lib.hid (HTX.out.non hf6)
    have HX6 := Lib.hid (HX25.out.non hf6)
    clear hf6 hcn
    have hsl2 := HSL.out.2
    have hsl1 := HSL.out.1
    by_cases hg : sealGood mac2 nonce2 ad2 B = true
    case pos =>
      have htb := HTO.out.symm.trans hg
      have her := (out_good (enc := enc2) hg).2
      rw [her]
      have hSb : (fun w' : World => Row w' (.slice (some ⟨X, 0, none⟩) 16 16) (bs T) ∧ Row w' x2 (bs B2)) z6.drew := ⟨HT6.out.non (Fr.drew _), HX6.out.non (Fr.drew _)⟩
      go_upto_region 7 with (fail)
      refine wp_region_held_drew (S := fun w' => Row w' (.slice (some ⟨X, 0, none⟩) 16 16) (bs T) ∧ Row w' x2 (bs B2)) (by kernel_rfl) hSb (fun hHeld => ?_)
      refine wpAnyH_takeL (i := 0) 49 (v := ?_) rfl rfl (by kernel_rfl) (by kernel_rfl) (by kernel_rfl) (fun _ _ _ h => h) (by assumption) (Or.inl ⟨by rfl, ?_⟩) ?_
      rotate_left
      · intro w hSw; go_simp; (try with_reducible rfl)
      simp only [List.set_cons_zero, List.set_cons_succ]
      refine wpAnyH_takeL (i := 1) 50 (v := ?_) rfl rfl (by kernel_rfl) (by kernel_rfl) (by kernel_rfl) (fun _ _ _ h => h) (by assumption) (Or.inl ⟨by rfl, ?_⟩) ?_
      rotate_left
      · intro w hSw; go_simp; (try with_reducible rfl)
      simp only [List.set_cons_zero, List.set_cons_succ]
      refine wpAnyH_takeL (i := 2) 51 (v := ?_) rfl rfl (by kernel_rfl) (by kernel_rfl) (by kernel_rfl) (fun _ _ _ h => h) (by assumption) (Or.inl ⟨by rfl, ?_⟩) ?_
      rotate_left
      · intro w hSw; go_simp; (try with_reducible rfl)
      simp only [List.set_cons_zero, List.set_cons_succ]
      refine wpAnyH_takeL (i := 3) 52 (v := ?_) rfl rfl (by kernel_rfl) (by kernel_rfl) (by kernel_rfl) (fun _ _ _ h => h) (by assumption) (Or.inl ⟨by rfl, ?_⟩) ?_
      rotate_left
      · intro w hSw; go_simp; (try with_reducible rfl)
      simp only [List.set_cons_zero, List.set_cons_succ]
      refine wpAnyH_takeL (i := 4) 53 (v := ?_) rfl rfl (by kernel_rfl) (by kernel_rfl) (by kernel_rfl) (fun _ _ _ h => h) (by assumption) (Or.inl ⟨by rfl, ?_⟩) ?_
      rotate_left
      · intro w hSw; go_simp; (try with_reducible rfl)
      simp only [List.set_cons_zero, List.set_cons_succ]
      refine wpAnyH_takeL (i := 5) 54 (v := .string ⟨T.toArray⟩) rfl rfl (by kernel_rfl) (by kernel_rfl) (by kernel_rfl) (fun _ _ _ h => h) (by assumption) (Or.inl ⟨by rfl, ?_⟩) ?_
      · intro w hSw; have hx := run_str (P := Tryd.prog) w 27 9 5 _ _ hSw.1 Tryd.underlying27 Tryd.underlying5 Tryd.underlying9; go_simp
      simp only [List.set_cons_zero, List.set_cons_succ]
      refine wpAnyH_takeL (i := 6) 55 (v := ?_) rfl rfl (by kernel_rfl) (by kernel_rfl) (by kernel_rfl) (fun _ _ _ h => h) (by assumption) (Or.inl ⟨by rfl, ?_⟩) ?_
      rotate_left
      · intro w hSw; go_simp; (try with_reducible rfl)
      simp only [List.set_cons_zero, List.set_cons_succ]
      refine wpAnyH_takeL (i := 7) 56 (v := ?_) rfl rfl (by kernel_rfl) (by kernel_rfl) (by kernel_rfl) (fun _ _ _ h => h) (by assumption) (Or.inl ⟨by rfl, ?_⟩) ?_
      rotate_left
      · intro w hSw; go_simp; (try with_reducible rfl)
      simp only [List.set_cons_zero, List.set_cons_succ]
      refine wpAnyH_takeL (i := 8) 57 (v := ?_) rfl rfl (by kernel_rfl) (by kernel_rfl) (by kernel_rfl) (fun _ _ _ h => h) (by assumption) (Or.inl ⟨by rfl, ?_⟩) ?_
      rotate_left
      · intro w hSw; go_simp; (try with_reducible rfl)
      simp only [List.set_cons_zero, List.set_cons_succ]
      refine wpAnyH_takeL (i := 9) 58 (v := ?_) rfl rfl (by kernel_rfl) (by kernel_rfl) (by kernel_rfl) (fun _ _ _ h => h) (by assumption) (Or.inl ⟨by rfl, ?_⟩) ?_
      rotate_left
      · intro w hSw; go_simp; (try with_reducible rfl)
      simp only [List.set_cons_zero, List.set_cons_succ]
      refine wpAnyH_takeL (i := 10) 59 (v := .string ⟨B2.toArray⟩) rfl rfl (by kernel_rfl) (by kernel_rfl) (by kernel_rfl) (fun _ _ _ h => h) (by assumption) (Or.inl ⟨by rfl, ?_⟩) ?_
      · intro w hSw; have hx := run_str (P := Tryd.prog) w 27 9 5 _ _ hSw.2 Tryd.underlying27 Tryd.underlying5 Tryd.underlying9; go_simp
      simp only [List.set_cons_zero, List.set_cons_succ]
      refine wpAnyH_takeL (i := 11) 60 (v := ?_) rfl rfl (by kernel_rfl) (by kernel_rfl) (by kernel_rfl) (fun _ _ _ h => h) (by assumption) (Or.inl ⟨by rfl, ?_⟩) ?_
      rotate_left
      · intro w hSw; go_simp; (try with_reducible rfl)
      simp only [List.set_cons_zero, List.set_cons_succ]
      refine wpAnyH_takeL (i := 12) 61 (v := ?_) rfl rfl (by kernel_rfl) (by kernel_rfl) (by kernel_rfl) (fun _ _ _ h => h) (by assumption) (Or.inl ⟨by rfl, ?_⟩) ?_
      rotate_left
      · intro w hSw; go_simp; (try with_reducible rfl)
      simp only [List.set_cons_zero, List.set_cons_succ]
      refine wpAnyH_takeL (i := 13) 62 (v := ?_) rfl rfl (by kernel_rfl) (by kernel_rfl) (by kernel_rfl) (fun _ _ _ h => h) (by assumption) (Or.inl ⟨by rfl, ?_⟩) ?_
      rotate_left
      · intro w hSw; go_simp; (try with_reducible rfl)
      simp only [List.set_cons_zero, List.set_cons_succ]
      refine wpAnyH_takeL (i := 14) 63 (v := ?_) rfl rfl (by kernel_rfl) (by kernel_rfl) (by kernel_rfl) (fun _ _ _ h => h) (by assumption) (Or.inl ⟨by rfl, ?_⟩) ?_
      rotate_left
      · intro w hSw; go_simp; (try with_reducible rfl)
      simp only [List.set_cons_zero, List.set_cons_succ]
      refine wpAnyH_takeL (i := 15) 64 (v := ?_) rfl rfl (by kernel_rfl) (by kernel_rfl) (by kernel_rfl) (fun _ _ _ h => h) (by assumption) (Or.inl ⟨by rfl, ?_⟩) ?_
      rotate_left
      · intro w hSw; go_simp; (try with_reducible rfl)
      simp only [List.set_cons_zero, List.set_cons_succ]
      refine wpAnyH_takeL (i := 16) 65 (v := ?_) rfl rfl (by kernel_rfl) (by kernel_rfl) (by kernel_rfl) (fun _ _ _ h => h) (by assumption) (Or.inl ⟨by rfl, ?_⟩) ?_
      rotate_left
      · intro w hSw; go_simp; (try with_reducible rfl)
      simp only [List.set_cons_zero, List.set_cons_succ]
      refine wpAnyH_takeL (i := 17) 66 (v := ?_) rfl rfl (by kernel_rfl) (by kernel_rfl) (by kernel_rfl) (fun _ _ _ h => h) (by assumption) (Or.inl ⟨by rfl, ?_⟩) ?_
      rotate_left
      · intro w hSw; go_simp; (try with_reducible rfl)
      simp only [List.set_cons_zero, List.set_cons_succ]
      refine wpAnyH_takeL (i := 18) 67 (v := undef) rfl rfl (by kernel_rfl) (by kernel_rfl) (by kernel_rfl) (fun _ _ _ h => h) (by assumption) (Or.inr ⟨by rfl, rfl⟩) ?_
      simp only [List.set_cons_zero, List.set_cons_succ]
      refine wpAnyH_takeL (i := 19) 68 (v := undef) rfl rfl (by kernel_rfl) (by kernel_rfl) (by kernel_rfl) (fun _ _ _ h => h) (by assumption) (Or.inr ⟨by rfl, rfl⟩) ?_
      simp only [List.set_cons_zero, List.set_cons_succ]
      refine wpAnyH_takeL (i := 20) 69 (v := ?_) rfl rfl (by kernel_rfl) (by kernel_rfl) (by kernel_rfl) (fun _ _ _ h => h) (by assumption) (Or.inl ⟨by rfl, ?_⟩) ?_
      rotate_left
      · intro w hSw; go_simp; (try with_reducible rfl)
      simp only [List.set_cons_zero, List.set_cons_succ]
      refine wpAnyH_takeL (i := 21) 70 (v := ?_) rfl rfl (by kernel_rfl) (by kernel_rfl) (by kernel_rfl) (fun _ _ _ h => h) (by assumption) (Or.inl ⟨by rfl, ?_⟩) ?_
      rotate_left
      · intro w hSw; go_simp; (try with_reducible rfl)
      simp only [List.set_cons_zero, List.set_cons_succ]
      refine wpAnyH_takeL (i := 22) 6 (v := ?_) rfl rfl (by kernel_rfl) (by kernel_rfl) (by kernel_rfl) (fun _ _ _ h => h) (by assumption) (Or.inl ⟨by rfl, ?_⟩) ?_
      rotate_left
      · intro w hSw; go_simp; (try with_reducible rfl)
      simp only [List.set_cons_zero, List.set_cons_succ]
      refine wpAnyH_done (by kernel_rfl) ?_ _
      go_wp2_with fail
      go_ret
      exact ⟨rfl, HF6.out.non (Fr.drew _)⟩
    case neg =>
      have hgf : sealGood mac2 nonce2 ad2 B = false := by simpa using hg
      have htb := HTO.out.symm.trans hgf
      have her := (out_bad (enc := enc2) hgf).2
      rw [her]
      have hSb : (fun w' : World => Row w' (.slice (some ⟨X, 0, none⟩) 16 16) (bs T) ∧ Row w' x2 (bs B2)) z6.drew := ⟨HT6.out.non (Fr.drew _), HX6.out.non (Fr.drew _)⟩
      go_upto_region 7 with (fail)
      refine wp_region_held_drew (S := fun w' => Row w' (.slice (some ⟨X, 0, none⟩) 16 16) (bs T) ∧ Row w' x2 (bs B2)) (by kernel_rfl) hSb (fun hHeld => ?_)
      refine wpAnyH_takeL (i := 0) 49 (v := ?_) rfl rfl (by kernel_rfl) (by kernel_rfl) (by kernel_rfl) (fun _ _ _ h => h) (by assumption) (Or.inl ⟨by rfl, ?_⟩) ?_
      rotate_left
      · intro w hSw; go_simp; (try with_reducible rfl)
      simp only [List.set_cons_zero, List.set_cons_succ]
      refine wpAnyH_takeL (i := 1) 50 (v := ?_) rfl rfl (by kernel_rfl) (by kernel_rfl) (by kernel_rfl) (fun _ _ _ h => h) (by assumption) (Or.inl ⟨by rfl, ?_⟩) ?_
      rotate_left
      · intro w hSw; go_simp; (try with_reducible rfl)
      simp only [List.set_cons_zero, List.set_cons_succ]
      refine wpAnyH_takeL (i := 2) 51 (v := ?_) rfl rfl (by kernel_rfl) (by kernel_rfl) (by kernel_rfl) (fun _ _ _ h => h) (by assumption) (Or.inl ⟨by rfl, ?_⟩) ?_
      rotate_left
      · intro w hSw; go_simp; (try with_reducible rfl)
      simp only [List.set_cons_zero, List.set_cons_succ]
      refine wpAnyH_takeL (i := 3) 52 (v := ?_) rfl rfl (by kernel_rfl) (by kernel_rfl) (by kernel_rfl) (fun _ _ _ h => h) (by assumption) (Or.inl ⟨by rfl, ?_⟩) ?_
      rotate_left
      · intro w hSw; go_simp; (try with_reducible rfl)
      simp only [List.set_cons_zero, List.set_cons_succ]
      refine wpAnyH_takeL (i := 4) 53 (v := ?_) rfl rfl (by kernel_rfl) (by kernel_rfl) (by kernel_rfl) (fun _ _ _ h => h) (by assumption) (Or.inl ⟨by rfl, ?_⟩) ?_
      rotate_left
      · intro w hSw; go_simp; (try with_reducible rfl)
      simp only [List.set_cons_zero, List.set_cons_succ]
      refine wpAnyH_takeL (i := 5) 54 (v := .string ⟨T.toArray⟩) rfl rfl (by kernel_rfl) (by kernel_rfl) (by kernel_rfl) (fun _ _ _ h => h) (by assumption) (Or.inl ⟨by rfl, ?_⟩) ?_
      · intro w hSw; have hx := run_str (P := Tryd.prog) w 27 9 5 _ _ hSw.1 Tryd.underlying27 Tryd.underlying5 Tryd.underlying9; go_simp
      simp only [List.set_cons_zero, List.set_cons_succ]
      refine wpAnyH_takeL (i := 6) 55 (v := ?_) rfl rfl (by kernel_rfl) (by kernel_rfl) (by kernel_rfl) (fun _ _ _ h => h) (by assumption) (Or.inl ⟨by rfl, ?_⟩) ?_
      rotate_left
      · intro w hSw; go_simp; (try with_reducible rfl)
      simp only [List.set_cons_zero, List.set_cons_succ]
      refine wpAnyH_takeL (i := 7) 56 (v := ?_) rfl rfl (by kernel_rfl) (by kernel_rfl) (by kernel_rfl) (fun _ _ _ h => h) (by assumption) (Or.inl ⟨by rfl, ?_⟩) ?_
      rotate_left
      · intro w hSw; go_simp; (try with_reducible rfl)
      simp only [List.set_cons_zero, List.set_cons_succ]
      refine wpAnyH_takeL (i := 8) 57 (v := ?_) rfl rfl (by kernel_rfl) (by kernel_rfl) (by kernel_rfl) (fun _ _ _ h => h) (by assumption) (Or.inl ⟨by rfl, ?_⟩) ?_
      rotate_left
      · intro w hSw; go_simp; (try with_reducible rfl)
      simp only [List.set_cons_zero, List.set_cons_succ]
      refine wpAnyH_takeL (i := 9) 58 (v := ?_) rfl rfl (by kernel_rfl) (by kernel_rfl) (by kernel_rfl) (fun _ _ _ h => h) (by assumption) (Or.inl ⟨by rfl, ?_⟩) ?_
      rotate_left
      · intro w hSw; go_simp; (try with_reducible rfl)
      simp only [List.set_cons_zero, List.set_cons_succ]
      refine wpAnyH_takeL (i := 10) 59 (v := .string ⟨B2.toArray⟩) rfl rfl (by kernel_rfl) (by kernel_rfl) (by kernel_rfl) (fun _ _ _ h => h) (by assumption) (Or.inl ⟨by rfl, ?_⟩) ?_
      · intro w hSw; have hx := run_str (P := Tryd.prog) w 27 9 5 _ _ hSw.2 Tryd.underlying27 Tryd.underlying5 Tryd.underlying9; go_simp
      simp only [List.set_cons_zero, List.set_cons_succ]
      refine wpAnyH_takeL (i := 11) 60 (v := ?_) rfl rfl (by kernel_rfl) (by kernel_rfl) (by kernel_rfl) (fun _ _ _ h => h) (by assumption) (Or.inl ⟨by rfl, ?_⟩) ?_
      rotate_left
      · intro w hSw; go_simp; (try with_reducible rfl)
      simp only [List.set_cons_zero, List.set_cons_succ]
      refine wpAnyH_takeL (i := 12) 61 (v := ?_) rfl rfl (by kernel_rfl) (by kernel_rfl) (by kernel_rfl) (fun _ _ _ h => h) (by assumption) (Or.inl ⟨by rfl, ?_⟩) ?_
      rotate_left
      · intro w hSw; go_simp; (try with_reducible rfl)
      simp only [List.set_cons_zero, List.set_cons_succ]
      refine wpAnyH_takeL (i := 13) 62 (v := ?_) rfl rfl (by kernel_rfl) (by kernel_rfl) (by kernel_rfl) (fun _ _ _ h => h) (by assumption) (Or.inl ⟨by rfl, ?_⟩) ?_
      rotate_left
      · intro w hSw; go_simp; (try with_reducible rfl)
      simp only [List.set_cons_zero, List.set_cons_succ]
      refine wpAnyH_takeL (i := 14) 63 (v := ?_) rfl rfl (by kernel_rfl) (by kernel_rfl) (by kernel_rfl) (fun _ _ _ h => h) (by assumption) (Or.inl ⟨by rfl, ?_⟩) ?_
      rotate_left
      · intro w hSw; go_simp; (try with_reducible rfl)
      simp only [List.set_cons_zero, List.set_cons_succ]
      refine wpAnyH_takeL (i := 15) 64 (v := ?_) rfl rfl (by kernel_rfl) (by kernel_rfl) (by kernel_rfl) (fun _ _ _ h => h) (by assumption) (Or.inl ⟨by rfl, ?_⟩) ?_
      rotate_left
      · intro w hSw; go_simp; (try with_reducible rfl)
      simp only [List.set_cons_zero, List.set_cons_succ]
      refine wpAnyH_takeL (i := 16) 65 (v := ?_) rfl rfl (by kernel_rfl) (by kernel_rfl) (by kernel_rfl) (fun _ _ _ h => h) (by assumption) (Or.inl ⟨by rfl, ?_⟩) ?_
      rotate_left
      · intro w hSw; go_simp; (try with_reducible rfl)
      simp only [List.set_cons_zero, List.set_cons_succ]
      refine wpAnyH_takeL (i := 17) 66 (v := ?_) rfl rfl (by kernel_rfl) (by kernel_rfl) (by kernel_rfl) (fun _ _ _ h => h) (by assumption) (Or.inl ⟨by rfl, ?_⟩) ?_
      rotate_left
      · intro w hSw; go_simp; (try with_reducible rfl)
      simp only [List.set_cons_zero, List.set_cons_succ]
      refine wpAnyH_takeL (i := 18) 67 (v := ?_) rfl rfl (by kernel_rfl) (by kernel_rfl) (by kernel_rfl) (fun _ _ _ h => h) (by assumption) (Or.inl ⟨by rfl, ?_⟩) ?_
      rotate_left
      · intro w hSw; go_simp; (try with_reducible rfl)
      simp only [List.set_cons_zero, List.set_cons_succ]
      refine wpAnyH_takeL (i := 19) 68 (v := ?_) rfl rfl (by kernel_rfl) (by kernel_rfl) (by kernel_rfl) (fun _ _ _ h => h) (by assumption) (Or.inl ⟨by rfl, ?_⟩) ?_
      rotate_left
      · intro w hSw; go_simp; (try with_reducible rfl)
      simp only [List.set_cons_zero, List.set_cons_succ]
      refine wpAnyH_takeL (i := 20) 69 (v := ?_) rfl rfl (by kernel_rfl) (by kernel_rfl) (by kernel_rfl) (fun _ _ _ h => h) (by assumption) (Or.inl ⟨by rfl, ?_⟩) ?_
      rotate_left
      · intro w hSw; go_simp; (try with_reducible rfl)
      simp only [List.set_cons_zero, List.set_cons_succ]
      refine wpAnyH_takeL (i := 21) 70 (v := ?_) rfl rfl (by kernel_rfl) (by kernel_rfl) (by kernel_rfl) (fun _ _ _ h => h) (by assumption) (Or.inl ⟨by rfl, ?_⟩) ?_
      rotate_left
      · intro w hSw; go_simp; (try with_reducible rfl)
      simp only [List.set_cons_zero, List.set_cons_succ]
      refine wpAnyH_takeL (i := 22) 6 (v := ?_) rfl rfl (by kernel_rfl) (by kernel_rfl) (by kernel_rfl) (fun _ _ _ h => h) (by assumption) (Or.inl ⟨by rfl, ?_⟩) ?_
      rotate_left
      · intro w hSw; go_simp; (try with_reducible rfl)
      simp only [List.set_cons_zero, List.set_cons_succ]
      refine wpAnyH_done (by kernel_rfl) ?_ _
      go_wp2_with fail
      go_ret
      exact ⟨rfl, HF6.out.non (Fr.drew _)⟩
end Go.Proofs.YthfpkdbhihcniaaDoor
