/- layer 6: a byte that is another one -/
import Derived.Test.YthfpkdbhihcniaaDoorLaw06B

namespace Go.Proofs.YthfpkdbhihcniaaDoor
open Go.ChangeShapes Go.WideShapes Go.ChangeAt Go.RowKit

theorem set_xor0 (B : List UInt8) (p : Nat) : B.set p (B[p]! ^^^ 0) = B := by
  rw [UInt8.xor_zero]
  by_cases h : p < B.length
  · rw [getElem!_pos B p h]; exact List.set_getElem_self h
  · exact List.set_eq_of_length_le (by omega)
set_option maxRecDepth 100000 in
set_option maxHeartbeats 4000000 in
/-- P6.5 -/
theorem turned6_any (W : World) (enc mac nonce ad : List UInt8) (va : Value) (v : Value) (l : List UInt8) (zs : List Int) (hL : laidMetH Tryd.prog Rows.sealTurnedRow.laid W) (he : enc.length = 32) (hmc : mac.length = 32) (hn : nonce.length = 12) (hva : Row W va (bs ad)) (hal : ad.length ≤ 140737488351232) (hv : Row W v (bs l)) (hl : l.length ≤ 140737488351232) (hzl : zs.length = 2) (hzw : ∀ z ∈ zs, (Lit.int .u16 z).wf = true) :
    Calls Tryd.prog 8 #[.agg (withCells enc mac nonce va).toArray, v, .agg (zs.map (Value.int .u16)).toArray] W fun e W' => e = .returned (.bool true) ∧ Fr Non W W' := by
  have HT := Lib.hid (seal_laid3 hL)
  have hlen := run_lenRow (P := Tryd.prog) hv 27 5 Tryd.underlying27
  rw [bs_length] at hlen
  have HV := Lib.hid hv
  have hid : (Tryd.prog.info? 32).map (·.size) = some 16 := by kernel_rfl
  have HID := Lib.hid hid
  obtain ⟨x, y, rfl⟩ : ∃ x y, zs = [x, y] := by
    match zs, hzl with
    | [x, y], _ => exact ⟨x, y, rfl⟩
  have hx := hzw x (by simp)
  have hy := hzw y (by simp)
  have q1 : IntKind.u16.min = 0 := by decide
  have q2 : IntKind.u16.max = 65535 := by decide
  simp only [Lit.wf, Bool.and_eq_true, decide_eq_true_eq, q1, q2] at hx hy
  obtain ⟨hx0, hx1⟩ := hx
  obtain ⟨hy0, hy1⟩ := hy
  clear hL hv hid hzl hzw q1 q2
  simp only [List.map_cons, List.map_nil]
  obtain ⟨p, hp⟩ : ∃ p : Nat, x % ((l.length : Int) + 16) = (p : Int) := ⟨(x % ((l.length : Int) + 16)).toNat, by have h1 := Int.emod_nonneg x (show (l.length : Int) + 16 ≠ 0 by omega); omega⟩
  have hpl : p < l.length + 16 := by have h1 := Int.emod_lt_of_pos x (show (0 : Int) < (l.length : Int) + 16 by omega); omega
  have hpt : x.tmod ((l.length : Int) + 16) = (p : Int) := by rw [Int.tmod_eq_emod_of_nonneg hx0]; exact hp
  obtain ⟨cb, hcb⟩ : ∃ cb : UInt8, (cb.toNat : Int) = y % 256 := ⟨UInt8.ofNat (y % 256).toNat, by rw [UInt8.toNat_ofNat']; omega⟩
  have hcw : IntKind.u8.wrap y = (cb.toNat : Int) := by rw [hcb]; go_num
  have hxw : IntKind.i64.wrap x = x := IntWalk.i64_in _ (by omega)
  have HPP := Lib.hid hpt
  have HCW := Lib.hid hcw
  have hp0 : (0 : Int) ≤ (p : Int) := by omega
  have hp1 : (p : Int) < (l.length : Int) + 16 := by omega
  have hpw : IntKind.i64.wrap (p : Int) = (p : Int) := IntWalk.i64_in _ (by omega)
  have hne16 : ¬ ((l.length : Int) + 16 = 0) := by omega
  clear hp hpt hcw hcb
  have HL := Lib.hid (And.intro he (And.intro hmc hn))
  have HVA := Lib.hid hva
  have hik : (Tryd.prog.info? 24).map (·.size) = some (keyCells enc mac).length := by unfold keyCells; rw [List.length_append, bs_length, bs_length, he, hmc]; kernel_rfl
  have hin : (Tryd.prog.info? 26).map (·.size) = some (bs nonce).length := by rw [bs_length, hn]; kernel_rfl
  have HWC := Lib.hid (with_at (va := va) he hmc hn)
  clear he hmc hn hva
  have huk := Tryd.underlying24
  have hun := Tryd.underlying26
  have e16 : IntKind.i64.wrap ((l.length : Int) + 16) = (l.length : Int) + 16 := IntWalk.i64_in _ (by omega)
  go_enter Tryd.func8, Tryd.ntmps8
  go_upto_region 1 with (fail)
  have hb1 := Blk.new W 29 (withCells enc mac nonce va)
  have hf1 := Fr.alloc W (.cells (withCells enc mac nonce va).toArray 29)
  have hs1 : (W.alloc (.cells (withCells enc mac nonce va).toArray 29)).heap.size = W.heap.size + 1 := by simp
  obtain ⟨P, hP⟩ : ∃ P, P = W.heap.size := ⟨_, rfl⟩
  rw [← hP] at hb1 hs1 ⊢
  generalize W.alloc (.cells (withCells enc mac nonce va).toArray 29) = w0 at hb1 hf1 hs1 ⊢
  have HP := Lib.hid (HWC.out _ _ _ hb1)
  have hbA := Blk.new w0 40 [.int .u16 x, .int .u16 y]
  have hfA := Fr.alloc w0 (.cells #[.int .u16 x, .int .u16 y] 40)
  rw [hs1] at hbA
  generalize w0.alloc (.cells #[.int .u16 x, .int .u16 y] 40) = w1 at hbA hfA ⊢
  have HF1 := Lib.hid (hf1.non hfA)
  have HP1 := Lib.hid (HP.out.non hfA)
  have HA1 := Lib.hid hbA
  have HPE := Lib.hid hP
  clear hb1 hs1 hf1 hP hbA hfA HP
  go_wp2_with fail
  refine (shown6_any _ (HT.out.non HF1.out)).mono ?_
  rintro e w2 ⟨rfl, hf2⟩
  have HF2 := Lib.hid (HF1.out.non hf2)
  have HP2 := Lib.hid (HP1.out.non hf2)
  have HA2 := Lib.hid (HA1.out.non hf2)
  have hcn := HP2.out.2.2
  clear hf2 HP1 HA1
  go_upto_region 2 with (fail)
  go_wp2_with ((with_reducible show wpList _ _ _ (({ op := .load _ _, .. } : Oper) :: _) _ _); first | (refine wpList_load_mid rfl 24 _ rfl P 0 rfl (keyCells enc mac) _ HP2.out.1 huk rfl hik ?_) | (refine wpList_load_mid rfl 26 _ rfl P 64 rfl (bs nonce) _ HP2.out.2.1 hun rfl hin ?_))
  refine (sealS_any enc mac nonce va v ad l w2 HL.out.1 HL.out.2.1 HL.out.2.2 (HVA.out.non HF2.out) (HV.out.non HF2.out) hal hl (HT.out.1.non HF2.out) (HT.out.2.non HF2.out)).mono ?_
  rintro e u3 ⟨v3, rfl, ho3, hf3⟩
  have hB0 := sealSeal_length enc mac nonce ad l
  have hgood := seal_good enc mac nonce ad l
  generalize sealSeal enc mac nonce ad l = B0 at ho3 hB0 hgood
  obtain ⟨g, c, hv3, -, -⟩ := ho3.form (by rw [bs_length, hB0]; omega)
  rw [bs_length, hB0] at hv3
  subst hv3
  have hgl := ho3.lt g rfl
  obtain ⟨cx, fx⟩ := ho3.cellAt p _ (bs_at? B0 p (by rw [hB0]; exact hpl))
  have hxx := u8xor B0[p]! cb
  have hset := ho3.set p (.int .u8 ((B0[p]! ^^^ cb).toNat : Int))
  rw [bs_set] at hset
  obtain ⟨B, hB⟩ : ∃ B, B = B0.set p (B0[p]! ^^^ cb) := ⟨_, rfl⟩
  rw [← hB] at hset
  have hBl : B.length = l.length + 16 := by rw [hB, List.length_set]; exact hB0
  have hcase : (cb = 0 ∧ sealGood mac nonce ad B = true) ∨ (¬ cb = 0 ∧ sealGood mac nonce ad B = true) ∨ (¬ cb = 0 ∧ sealGood mac nonce ad B = false) := by
    by_cases h0 : cb = 0
    · exact .inl ⟨h0, by rw [hB, h0, set_xor0]; exact hgood⟩
    · by_cases h1 : sealGood mac nonce ad B = true
      · exact .inr (.inl ⟨h0, h1⟩)
      · exact .inr (.inr ⟨h0, by simpa using h1⟩)
  obtain ⟨z, hz⟩ : ∃ z, z = cb.toNat := ⟨_, rfl⟩
  have hzc : cb = 0 ↔ z = 0 := by rw [hz]; exact ⟨fun h => by rw [h]; rfl, fun h => UInt8.toNat_inj.1 h⟩
  rw [hzc] at hcase
  have hcw := HCW.out
  rw [← hz] at hcw hxx
  have hpt := HPP.out
  obtain ⟨a0, -⟩ := (HA2.out.non hf3).at 0 _ rfl
  obtain ⟨a1, -⟩ := (HA2.out.non hf3).at 1 _ rfl
  have HCASE := Lib.hid hcase
  have HBLL := Lib.hid hBl
  have HSET := Lib.hid hset
  have HFU := Lib.hid hf3
  have HGL := Lib.hid hgl
  have gz : z < 256 := by rw [hz]; exact cb.toNat_lt
  have gb := B0[p]!.toNat_lt
  have gq : (B0[p]! ^^^ cb).toNat < 256 := (B0[p]! ^^^ cb).toNat_lt
  clear hzc hz hcase hBl hset hf3 hgl hgood hB hB0 ho3 hcn HPP HCW
  generalize (B0[p]! ^^^ cb).toNat = nb at hxx HSET gq
  generalize B0[p]!.toNat = ob at cx hxx gb
  go_upto_region 5 with (fail)
  go_still_tail 14, (by kernel_rfl)
  change wpList _ _ _ _ _ u3.drew
  go_upto_region 6 with (fail)
  have hf4 : Fr Non w2 (u3.setCell ⟨g, p, none⟩ (.int .u8 (nb : Int))).drew := (HFU.out.new (Fr.setCell u3 ⟨g, p, none⟩ (.int .u8 (nb : Int))) (fun i h => by have h1 : i = g := h; have := HGL.out.1; omega)).non (Fr.drew _)
  have hr3 := (HSET.out.non (Fr.drew _)).row
  generalize (u3.setCell ⟨g, p, none⟩ (.int .u8 (nb : Int))).drew = w3 at hf4 hr3 ⊢
  have HF3 := Lib.hid (HF2.out.non hf4)
  have HP3 := Lib.hid (HP2.out.non hf4)
  have HAC : Hid (∀ w', Fr Non w3 w' → w'.cell? ⟨P + 1, 1, none⟩ = some (.int .u16 y)) := Lib.hid (fun w' f => ((HA2.out.non (hf4.non f)).at 1 _ rfl).1)
  have hBl := HBLL.out
  clear hf4 HSET HFU HGL a0 a1 cx fx hxx gb gq HA2 HP2 hpt
  obtain ⟨v3, hv3⟩ : ∃ v3, v3 = Value.slice (some ⟨g, 0, none⟩) (l.length + 16) c := ⟨_, rfl⟩
  rw [← hv3] at hr3 ⊢
  clear hv3
  have htold := seal_told mac nonce ad B l.length hBl
  have hlen3 := run_lenRow (P := Tryd.prog) hr3 27 5 Tryd.underlying27
  rw [bs_length, hBl] at hlen3
  obtain ⟨x1, rs1, hx1, -⟩ := run_subHi (P := Tryd.prog) hr3 27 5 Tryd.underlying27 (by kernel_rfl) .i64 l.length l.length rfl (by rw [bs_length]; omega)
  obtain ⟨x2, rs2, hx2, -⟩ := run_subLo (P := Tryd.prog) hr3 27 5 Tryd.underlying27 (by kernel_rfl) .i64 l.length l.length rfl (by rw [bs_length]; omega)
  have hx1' : Row w3 x1 (bs (B.take l.length)) := by simpa [bs, List.map_take] using hx1
  have hx2' : Row w3 x2 (bs (B.drop l.length)) := by simpa [bs, List.map_drop] using hx2
  have hl1 : (B.take l.length).length = l.length := by rw [List.length_take]; omega
  have HR3 := Lib.hid hr3
  have HBL := Lib.hid hBl
  have HTO := Lib.hid htold
  have HSL := Lib.hid (And.intro rs1 rs2)
  clear hx1 hx2 htold hBl hr3
  generalize B.take l.length = B1 at hx1' HTO hl1
  generalize B.drop l.length = B2 at hx2' HTO
  have HX1 := Lib.hid hx1'
  have HX2 := Lib.hid hx2'
  have HL1 := Lib.hid hl1
  clear hx1' hx2' hl1
  have hsl1 := HSL.out.1
  have hSa : (fun w' : World => w'.rangeAt P 0 (keyCells enc mac) ∧ w'.rangeAt P 64 (bs nonce) ∧ w'.cell? ⟨P, 76, none⟩ = some va) w3.drew := HP3.out.non (Fr.drew _)
  go_upto_region 6 with (fail)
  refine wp_region_held_drew (S := fun w' => w'.rangeAt P 0 (keyCells enc mac) ∧ w'.rangeAt P 64 (bs nonce) ∧ w'.cell? ⟨P, 76, none⟩ = some va) (by kernel_rfl) hSa (fun hHeld => ?_)
  have hfd : Fr Non w3 w3.drew := Fr.drew _
  clear hSa
  generalize w3.drew = w4 at hfd hHeld ⊢
  have HF4 := Lib.hid (HF3.out.non hfd)
  have HX14 := Lib.hid (HX1.out.non hfd)
  have HX24 := Lib.hid (HX2.out.non hfd)
  have HR4 := Lib.hid (HR3.out.non hfd)
  have HQ4 := Lib.hid (HP3.out.non hfd)
  have HFD := Lib.hid hfd
  clear hfd
  refine wpAnyH_takeL (i := 0) 41 (v := ?_) rfl rfl (by kernel_rfl) (by kernel_rfl) (by kernel_rfl) (fun _ _ _ h => h) (by assumption) (Or.inl ⟨by rfl, ?_⟩) ?_
  rotate_left
  · intro w hSw; go_simp; (try with_reducible rfl)
  simp only [List.set_cons_zero, List.set_cons_succ]
  refine wpAnyH_takeL (i := 1) 42 (v := .agg (keyCells enc mac).toArray) rfl rfl (by kernel_rfl) (by kernel_rfl) (by kernel_rfl) (fun _ _ _ h => h) (by assumption) (yieldsIf_load_mid (by rfl) _ _ rfl P (0) rfl (keyCells enc mac) _ (fun w h => h.1) huk rfl hik) ?_
  simp only [List.set_cons_zero, List.set_cons_succ]
  refine wpAnyH_takeL (i := 2) 43 (v := ?_) rfl rfl (by kernel_rfl) (by kernel_rfl) (by kernel_rfl) (fun _ _ _ h => h) (by assumption) (Or.inl ⟨by rfl, ?_⟩) ?_
  rotate_left
  · intro w hSw; go_simp; (try with_reducible rfl)
  simp only [List.set_cons_zero, List.set_cons_succ]
  refine wpAnyH_takeL (i := 3) 44 (v := .agg (bs nonce).toArray) rfl rfl (by kernel_rfl) (by kernel_rfl) (by kernel_rfl) (fun _ _ _ h => h) (by assumption) (yieldsIf_load_mid (by rfl) _ _ rfl P (64) rfl (bs nonce) _ (fun w h => h.2.1) hun rfl hin) ?_
  simp only [List.set_cons_zero, List.set_cons_succ]
  refine wpAnyH_takeL (i := 4) 45 (v := ?_) rfl rfl (by kernel_rfl) (by kernel_rfl) (by kernel_rfl) (fun _ _ _ h => h) (by assumption) (Or.inl ⟨by rfl, ?_⟩) ?_
  rotate_left
  · intro w hSw; go_simp; (try with_reducible rfl)
  simp only [List.set_cons_zero, List.set_cons_succ]
  refine wpAnyH_takeL (i := 5) 46 (v := ?_) rfl rfl (by kernel_rfl) (by kernel_rfl) (by kernel_rfl) (fun _ _ _ h => h) (by assumption) (Or.inl ⟨by rfl, ?_⟩) ?_
  rotate_left
  · intro w hSw; go_simp; (try with_reducible rfl)
  simp only [List.set_cons_zero, List.set_cons_succ]
  refine wpAnyH_takeL (i := 6) 47 (v := ?_) rfl rfl (by kernel_rfl) (by kernel_rfl) (by kernel_rfl) (fun _ _ _ h => h) (by assumption) (Or.inl ⟨by rfl, ?_⟩) ?_
  rotate_left
  · intro w hSw; go_simp; (try with_reducible rfl)
  simp only [List.set_cons_zero, List.set_cons_succ]
  refine wpAnyH_takeL (i := 7) 48 (v := ?_) rfl rfl (by kernel_rfl) (by kernel_rfl) (by kernel_rfl) (fun _ _ _ h => h) (by assumption) (Or.inl ⟨by rfl, ?_⟩) ?_
  rotate_left
  · intro w hSw; go_simp; (try with_reducible rfl)
  simp only [List.set_cons_zero, List.set_cons_succ]
  refine wpAnyH_takeL (i := 8) 49 (v := ?_) rfl rfl (by kernel_rfl) (by kernel_rfl) (by kernel_rfl) (fun _ _ _ h => h) (by assumption) (Or.inl ⟨by rfl, ?_⟩) ?_
  rotate_left
  · intro w hSw; go_simp; (try with_reducible rfl)
  simp only [List.set_cons_zero, List.set_cons_succ]
  refine wpAnyH_takeL (i := 9) 50 (v := ?_) rfl rfl (by kernel_rfl) (by kernel_rfl) (by kernel_rfl) (fun _ _ _ h => h) (by assumption) (Or.inl ⟨by rfl, ?_⟩) ?_
  rotate_left
  · intro w hSw; go_simp; (try with_reducible rfl)
  simp only [List.set_cons_zero, List.set_cons_succ]
  refine wpAnyH_ready (rs := [10, 11]) (by kernel_rfl) (by simp) ?_
  refine AllReadyH.cons (o := ⟨some 51, _, _, _, _, _⟩) rfl (fun K hK => ?_) (AllReadyH.cons (o := ⟨some 9, _, _, _, _, _⟩) rfl (fun K hK => ?_) (AllReadyH.nil))
  · skip
    go_simp
    go_wp2_with (go_at_call 11; refine (tagS_any enc mac nonce va x1 ad B1 _ HL.out.1 HL.out.2.1 HL.out.2.2 (HVA.out.non (HF4.out.non (Fr.refl _ _))) (HX14.out.non (Fr.refl _ _)) hal (by rw [HL1.out]; exact hl) (HT.out.1.non (HF4.out.non (Fr.refl _ _)))).mono ?_; rintro e r1 ⟨rfl, hf1⟩)
    have htl := sealTag_length mac nonce ad B1
    have F1 : Hid (Fr Non w4 r1) := Lib.hid hf1
    clear hf1
    generalize sealTag mac nonce ad B1 = T at HTO htl ⊢
    have HTL := Lib.hid htl
    clear htl
    refine hK.out _ _ (HQ4.out.non F1.out) (fun hHeld => ?_)
    clear hK K
    refine wpAnyH_ready (rs := [11]) (by kernel_rfl) (by simp) ?_
    refine AllReadyH.cons (o := ⟨some 9, _, _, _, _, _⟩) rfl (fun K hK => ?_) (AllReadyH.nil)
    go_simp
    obtain ⟨X, hX⟩ : ∃ X, X = r1.heap.size := ⟨_, rfl⟩
    have hXW : W.heap.size ≤ X := by have h2 := Fr.size (S := Non) (w := W) (HF4.out.non F1.out); omega
    have hX4 : w4.heap.size ≤ X := by have h2 := Fr.size (S := Non) (w := w4) F1.out; omega
    obtain ⟨r2, hw2⟩ : ∃ w', w' = r1.alloc (.cells #[.int .u8 0, .int .u8 0, .int .u8 0, .int .u8 0, .int .u8 0, .int .u8 0, .int .u8 0, .int .u8 0, .int .u8 0, .int .u8 0, .int .u8 0, .int .u8 0, .int .u8 0, .int .u8 0, .int .u8 0, .int .u8 0] 32) := ⟨_, rfl⟩
    rw [← hw2]
    have F2 : Hid (Fr Non r1 r2) := Lib.hid (by rw [hw2]; exact Fr.alloc _ _)
    have BX : Hid (Blk r2 X 32 (bs (List.replicate 16 0))) := Lib.hid (by rw [hw2]; exact by rw [hX]; exact Blk.new _ _ _)
    clear hw2
    rw [← hX]
    have HXX := Lib.hid (And.intro hXW hX4)
    clear hX hXW hX4
    refine hK.out _ _ (HQ4.out.non (F1.out.non F2.out)) (fun hHeld => ?_)
    clear hK K
    refine wpAnyH_ready (rs := [12]) (by kernel_rfl) (by simp) ?_
    refine AllReadyH.cons (o := ⟨none, _, _, _, _, _⟩) rfl (fun K hK => ?_) (AllReadyH.nil)
    rw [if_pos (by rfl)]
    have hbx := BX.out.non (Fr.refl _ _)
    have hdl : (bs T).toArray.size = 16 := by rw [List.size_toArray, bs_length, HTL.out]
    refine wp_store_mid 32 (.tmp 9) (.tmp 51) rfl X 0 (bs T).toArray rfl rfl (by rw [hdl]; exact hbx.there 0 16 (by simp [bs_length])) (by rw [hdl]; exact HID.out) (all_oneCell_toArray (bs_one T)) ?_
    have hst := Blk.setCells (bs T) _ _ 0 hbx (by simp [bs_length, HTL.out])
    have hfs := Fr.setCells' X (bs T) r2 0
    rw [splice_all _ _ (by simp [bs_length, HTL.out])] at hst
    have hfw : Fr Non w4 r2 := (F1.out.non F2.out)
    obtain ⟨z5, hz5⟩ : ∃ z5, z5 = r2.setCells X 0 (bs T).toArray.toList := ⟨_, rfl⟩
    rw [show (bs T) = (bs T).toArray.toList from rfl, ← hz5] at hst hfs
    rw [← hz5]
    have HST := Lib.hid hst
    have HFW := Lib.hid (hfw.new hfs (fun i h => by have h1 : i = X := h; have h2 := HXX.out.2; omega))
    clear hst hfs hfw hbx hdl hz5
    simp only [Act.put]
    refine hK.out _ _ (HQ4.out.non HFW.out) (fun hHeld => ?_)
    clear hK K
    refine wpAnyH_done (by kernel_rfl) ?_ _
    clear hHeld hsl1
    have HF5 := Lib.hid (HF4.out.non HFW.out)
    have HQ5 := Lib.hid (HQ4.out.non HFW.out)
    have HTX := Lib.hid (HST.out.part 0 16 T HTL.out (by unfold maxLen; omega) (fun j v hj => by rw [Nat.zero_add]; exact hj))
    have HR5 := Lib.hid (HR4.out.non HFW.out)
    have HX25 := Lib.hid (HX24.out.non HFW.out)
    have hcn := HQ5.out.2.2
    go_upto_region 7 with (fail)
    go_wp2_with ((with_reducible show wpList _ _ _ (({ op := .load _ _, .. } : Oper) :: _) _ _); first | (refine wpList_load_mid rfl 24 _ rfl P 0 rfl (keyCells enc mac) _ HQ5.out.1 huk rfl hik ?_) | (refine wpList_load_mid rfl 26 _ rfl P 64 rfl (bs nonce) _ HQ5.out.2.1 hun rfl hin ?_))
    refine (openS_any enc mac nonce va v3 ad B z5 HL.out.1 HL.out.2.1 HL.out.2.2 (HVA.out.non HF5.out) HR5.out hal (by rw [HBL.out]; omega) (HT.out.1.non HF5.out) (HT.out.2.non HF5.out)).mono ?_
    rintro e z6 ⟨v6, rfl, -, hf6⟩
    have HF6 := Lib.hid (HF5.out.non hf6)
    have HT6 := Lib.hid (HTX.out.non hf6)
    have HX6 := Lib.hid (HX25.out.non hf6)
    have HA6 := Lib.hid (HAC.out _ (HFD.out.non (HFW.out.non hf6)))
    clear hf6 hcn
    have hsl2 := HSL.out.2
    have hsl1 := HSL.out.1
    rcases HCASE.out with ⟨hz, hg⟩ | ⟨hz, hg⟩ | ⟨hz, hg⟩
    · skip
      have htb := HTO.out.symm.trans hg
      have her := (out_good (enc := enc) hg).2
      rw [her]
      have hz1 : (z : Int) = 0 := by omega
      have hz2 : ((z : Int) != 0) = false := by rw [hz1]; rfl
      have hSb : (fun w' : World => Row w' (.slice (some ⟨X, 0, none⟩) 16 16) (bs T) ∧ Row w' x2 (bs B2) ∧ w'.cell? ⟨P + 1, 1, none⟩ = some (.int .u16 y)) z6.drew := ⟨HT6.out.non (Fr.drew _), HX6.out.non (Fr.drew _), (Fr.drew z6).cell HA6.out (fun h => h)⟩
      go_upto_region 8 with (fail)
      refine wp_region_held_drew (S := fun w' => Row w' (.slice (some ⟨X, 0, none⟩) 16 16) (bs T) ∧ Row w' x2 (bs B2) ∧ w'.cell? ⟨P + 1, 1, none⟩ = some (.int .u16 y)) (by kernel_rfl) hSb (fun hHeld => ?_)
      refine wpAnyH_takeL (i := 0) 63 (v := ?_) rfl rfl (by kernel_rfl) (by kernel_rfl) (by kernel_rfl) (fun _ _ _ h => h) (by assumption) (Or.inl ⟨by rfl, ?_⟩) ?_
      rotate_left
      · intro w hSw; go_simp; (try with_reducible rfl)
      simp only [List.set_cons_zero, List.set_cons_succ]
      refine wpAnyH_takeL (i := 1) 64 (v := ?_) rfl rfl (by kernel_rfl) (by kernel_rfl) (by kernel_rfl) (fun _ _ _ h => h) (by assumption) (Or.inl ⟨by rfl, ?_⟩) ?_
      rotate_left
      · intro w hSw; go_simp; (try with_reducible rfl)
      simp only [List.set_cons_zero, List.set_cons_succ]
      refine wpAnyH_takeL (i := 2) 65 (v := ?_) rfl rfl (by kernel_rfl) (by kernel_rfl) (by kernel_rfl) (fun _ _ _ h => h) (by assumption) (Or.inl ⟨by rfl, ?_⟩) ?_
      rotate_left
      · intro w hSw; go_simp; (try with_reducible rfl)
      simp only [List.set_cons_zero, List.set_cons_succ]
      refine wpAnyH_takeL (i := 3) 66 (v := ?_) rfl rfl (by kernel_rfl) (by kernel_rfl) (by kernel_rfl) (fun _ _ _ h => h) (by assumption) (Or.inl ⟨by rfl, ?_⟩) ?_
      rotate_left
      · intro w hSw; go_simp; (try with_reducible rfl)
      simp only [List.set_cons_zero, List.set_cons_succ]
      refine wpAnyH_takeL (i := 4) 67 (v := ?_) rfl rfl (by kernel_rfl) (by kernel_rfl) (by kernel_rfl) (fun _ _ _ h => h) (by assumption) (Or.inl ⟨by rfl, ?_⟩) ?_
      rotate_left
      · intro w hSw; go_simp; (try with_reducible rfl)
      simp only [List.set_cons_zero, List.set_cons_succ]
      refine wpAnyH_takeL (i := 5) 68 (v := .string ⟨T.toArray⟩) rfl rfl (by kernel_rfl) (by kernel_rfl) (by kernel_rfl) (fun _ _ _ h => h) (by assumption) (Or.inl ⟨by rfl, ?_⟩) ?_
      · intro w hSw; have hx := run_str (P := Tryd.prog) w 27 9 5 _ _ hSw.1 Tryd.underlying27 Tryd.underlying5 Tryd.underlying9; go_simp
      simp only [List.set_cons_zero, List.set_cons_succ]
      refine wpAnyH_takeL (i := 6) 69 (v := ?_) rfl rfl (by kernel_rfl) (by kernel_rfl) (by kernel_rfl) (fun _ _ _ h => h) (by assumption) (Or.inl ⟨by rfl, ?_⟩) ?_
      rotate_left
      · intro w hSw; go_simp; (try with_reducible rfl)
      simp only [List.set_cons_zero, List.set_cons_succ]
      refine wpAnyH_takeL (i := 7) 70 (v := ?_) rfl rfl (by kernel_rfl) (by kernel_rfl) (by kernel_rfl) (fun _ _ _ h => h) (by assumption) (Or.inl ⟨by rfl, ?_⟩) ?_
      rotate_left
      · intro w hSw; go_simp; (try with_reducible rfl)
      simp only [List.set_cons_zero, List.set_cons_succ]
      refine wpAnyH_takeL (i := 8) 71 (v := ?_) rfl rfl (by kernel_rfl) (by kernel_rfl) (by kernel_rfl) (fun _ _ _ h => h) (by assumption) (Or.inl ⟨by rfl, ?_⟩) ?_
      rotate_left
      · intro w hSw; go_simp; (try with_reducible rfl)
      simp only [List.set_cons_zero, List.set_cons_succ]
      refine wpAnyH_takeL (i := 9) 72 (v := ?_) rfl rfl (by kernel_rfl) (by kernel_rfl) (by kernel_rfl) (fun _ _ _ h => h) (by assumption) (Or.inl ⟨by rfl, ?_⟩) ?_
      rotate_left
      · intro w hSw; go_simp; (try with_reducible rfl)
      simp only [List.set_cons_zero, List.set_cons_succ]
      refine wpAnyH_takeL (i := 10) 73 (v := .string ⟨B2.toArray⟩) rfl rfl (by kernel_rfl) (by kernel_rfl) (by kernel_rfl) (fun _ _ _ h => h) (by assumption) (Or.inl ⟨by rfl, ?_⟩) ?_
      · intro w hSw; have hx := run_str (P := Tryd.prog) w 27 9 5 _ _ hSw.2.1 Tryd.underlying27 Tryd.underlying5 Tryd.underlying9; go_simp
      simp only [List.set_cons_zero, List.set_cons_succ]
      refine wpAnyH_takeL (i := 11) 74 (v := ?_) rfl rfl (by kernel_rfl) (by kernel_rfl) (by kernel_rfl) (fun _ _ _ h => h) (by assumption) (Or.inl ⟨by rfl, ?_⟩) ?_
      rotate_left
      · intro w hSw; go_simp; (try with_reducible rfl)
      simp only [List.set_cons_zero, List.set_cons_succ]
      refine wpAnyH_takeL (i := 12) 75 (v := ?_) rfl rfl (by kernel_rfl) (by kernel_rfl) (by kernel_rfl) (fun _ _ _ h => h) (by assumption) (Or.inl ⟨by rfl, ?_⟩) ?_
      rotate_left
      · intro w hSw; go_simp; (try with_reducible rfl)
      simp only [List.set_cons_zero, List.set_cons_succ]
      refine wpAnyH_takeL (i := 13) 76 (v := ?_) rfl rfl (by kernel_rfl) (by kernel_rfl) (by kernel_rfl) (fun _ _ _ h => h) (by assumption) (Or.inl ⟨by rfl, ?_⟩) ?_
      rotate_left
      · intro w hSw; go_simp; (try with_reducible rfl)
      simp only [List.set_cons_zero, List.set_cons_succ]
      refine wpAnyH_takeL (i := 14) 77 (v := ?_) rfl rfl (by kernel_rfl) (by kernel_rfl) (by kernel_rfl) (fun _ _ _ h => h) (by assumption) (Or.inl ⟨by rfl, ?_⟩) ?_
      rotate_left
      · intro w hSw; go_simp; (try with_reducible rfl)
      simp only [List.set_cons_zero, List.set_cons_succ]
      refine wpAnyH_takeL (i := 15) 78 (v := ?_) rfl rfl (by kernel_rfl) (by kernel_rfl) (by kernel_rfl) (fun _ _ _ h => h) (by assumption) (Or.inl ⟨by rfl, ?_⟩) ?_
      rotate_left
      · intro w hSw; go_simp; (try with_reducible rfl)
      simp only [List.set_cons_zero, List.set_cons_succ]
      refine wpAnyH_takeL (i := 16) 79 (v := ?_) rfl rfl (by kernel_rfl) (by kernel_rfl) (by kernel_rfl) (fun _ _ _ h => h) (by assumption) (Or.inl ⟨by rfl, ?_⟩) ?_
      rotate_left
      · intro w hSw; go_simp; (try with_reducible rfl)
      simp only [List.set_cons_zero, List.set_cons_succ]
      refine wpAnyH_takeL (i := 17) 80 (v := ?_) rfl rfl (by kernel_rfl) (by kernel_rfl) (by kernel_rfl) (fun _ _ _ h => h) (by assumption) (Or.inl ⟨by rfl, ?_⟩) ?_
      rotate_left
      · intro w hSw; go_simp; (try with_reducible rfl)
      simp only [List.set_cons_zero, List.set_cons_succ]
      refine wpAnyH_takeL (i := 18) 81 (v := ?_) rfl rfl (by kernel_rfl) (by kernel_rfl) (by kernel_rfl) (fun _ _ _ h => h) (by assumption) (Or.inl ⟨by rfl, ?_⟩) ?_
      rotate_left
      · intro w hSw; go_simp; (try with_reducible rfl)
      simp only [List.set_cons_zero, List.set_cons_succ]
      refine wpAnyH_takeL (i := 19) 82 (v := ?_) rfl rfl (by kernel_rfl) (by kernel_rfl) (by kernel_rfl) (fun _ _ _ h => h) (by assumption) (Or.inl ⟨by rfl, ?_⟩) ?_
      rotate_left
      · intro w hSw; go_simp; (try with_reducible rfl)
      simp only [List.set_cons_zero, List.set_cons_succ]
      refine wpAnyH_takeL (i := 20) 83 (v := ?_) rfl rfl (by kernel_rfl) (by kernel_rfl) (by kernel_rfl) (fun _ _ _ h => h) (by assumption) (Or.inl ⟨by rfl, ?_⟩) ?_
      rotate_left
      · intro w hSw; go_simp; (try with_reducible rfl)
      simp only [List.set_cons_zero, List.set_cons_succ]
      refine wpAnyH_takeL (i := 21) 84 (v := ?_) rfl rfl (by kernel_rfl) (by kernel_rfl) (by kernel_rfl) (fun _ _ _ h => h) (by assumption) (Or.inl ⟨by rfl, ?_⟩) ?_
      rotate_left
      · intro w hSw; go_simp; (try with_reducible rfl)
      simp only [List.set_cons_zero, List.set_cons_succ]
      refine wpAnyH_takeL (i := 22) 85 (v := ?_) rfl rfl (by kernel_rfl) (by kernel_rfl) (by kernel_rfl) (fun _ _ _ h => h) (by assumption) (Or.inl ⟨by rfl, ?_⟩) ?_
      rotate_left
      · intro w hSw; go_simp; (try with_reducible rfl)
      simp only [List.set_cons_zero, List.set_cons_succ]
      refine wpAnyH_takeL (i := 23) 86 (v := ?_) rfl rfl (by kernel_rfl) (by kernel_rfl) (by kernel_rfl) (fun _ _ _ h => h) (by assumption) (Or.inl ⟨by rfl, ?_⟩) ?_
      rotate_left
      · intro w hSw; go_simp; (try with_reducible rfl)
      simp only [List.set_cons_zero, List.set_cons_succ]
      refine wpAnyH_takeL (i := 24) 6 (v := ?_) rfl rfl (by kernel_rfl) (by kernel_rfl) (by kernel_rfl) (fun _ _ _ h => h) (by assumption) (Or.inl ⟨by rfl, ?_⟩) ?_
      rotate_left
      · intro w hSw; go_simp; (try with_reducible rfl)
      simp only [List.set_cons_zero, List.set_cons_succ]
      refine wpAnyH_done (by kernel_rfl) ?_ _
      go_wp2_with fail
      go_ret
      exact ⟨rfl, HF6.out.non (Fr.drew _)⟩
    · skip
      have htb := HTO.out.symm.trans hg
      have her := (out_good (enc := enc) hg).2
      rw [her]
      have hz1 : ¬ (z : Int) = 0 := by omega
      have hz2 : ((z : Int) != 0) = true := bne_iff_ne.2 hz1
      have hSb : (fun w' : World => Row w' (.slice (some ⟨X, 0, none⟩) 16 16) (bs T) ∧ Row w' x2 (bs B2) ∧ w'.cell? ⟨P + 1, 1, none⟩ = some (.int .u16 y)) z6.drew := ⟨HT6.out.non (Fr.drew _), HX6.out.non (Fr.drew _), (Fr.drew z6).cell HA6.out (fun h => h)⟩
      go_upto_region 8 with (fail)
      refine wp_region_held_drew (S := fun w' => Row w' (.slice (some ⟨X, 0, none⟩) 16 16) (bs T) ∧ Row w' x2 (bs B2) ∧ w'.cell? ⟨P + 1, 1, none⟩ = some (.int .u16 y)) (by kernel_rfl) hSb (fun hHeld => ?_)
      refine wpAnyH_takeL (i := 0) 63 (v := ?_) rfl rfl (by kernel_rfl) (by kernel_rfl) (by kernel_rfl) (fun _ _ _ h => h) (by assumption) (Or.inl ⟨by rfl, ?_⟩) ?_
      rotate_left
      · intro w hSw; go_simp; (try with_reducible rfl)
      simp only [List.set_cons_zero, List.set_cons_succ]
      refine wpAnyH_takeL (i := 1) 64 (v := ?_) rfl rfl (by kernel_rfl) (by kernel_rfl) (by kernel_rfl) (fun _ _ _ h => h) (by assumption) (Or.inl ⟨by rfl, ?_⟩) ?_
      rotate_left
      · intro w hSw; go_simp; (try with_reducible rfl)
      simp only [List.set_cons_zero, List.set_cons_succ]
      refine wpAnyH_takeL (i := 2) 65 (v := ?_) rfl rfl (by kernel_rfl) (by kernel_rfl) (by kernel_rfl) (fun _ _ _ h => h) (by assumption) (Or.inl ⟨by rfl, ?_⟩) ?_
      rotate_left
      · intro w hSw; go_simp; (try with_reducible rfl)
      simp only [List.set_cons_zero, List.set_cons_succ]
      refine wpAnyH_takeL (i := 3) 66 (v := ?_) rfl rfl (by kernel_rfl) (by kernel_rfl) (by kernel_rfl) (fun _ _ _ h => h) (by assumption) (Or.inl ⟨by rfl, ?_⟩) ?_
      rotate_left
      · intro w hSw; go_simp; (try with_reducible rfl)
      simp only [List.set_cons_zero, List.set_cons_succ]
      refine wpAnyH_takeL (i := 4) 67 (v := ?_) rfl rfl (by kernel_rfl) (by kernel_rfl) (by kernel_rfl) (fun _ _ _ h => h) (by assumption) (Or.inl ⟨by rfl, ?_⟩) ?_
      rotate_left
      · intro w hSw; go_simp; (try with_reducible rfl)
      simp only [List.set_cons_zero, List.set_cons_succ]
      refine wpAnyH_takeL (i := 5) 68 (v := .string ⟨T.toArray⟩) rfl rfl (by kernel_rfl) (by kernel_rfl) (by kernel_rfl) (fun _ _ _ h => h) (by assumption) (Or.inl ⟨by rfl, ?_⟩) ?_
      · intro w hSw; have hx := run_str (P := Tryd.prog) w 27 9 5 _ _ hSw.1 Tryd.underlying27 Tryd.underlying5 Tryd.underlying9; go_simp
      simp only [List.set_cons_zero, List.set_cons_succ]
      refine wpAnyH_takeL (i := 6) 69 (v := ?_) rfl rfl (by kernel_rfl) (by kernel_rfl) (by kernel_rfl) (fun _ _ _ h => h) (by assumption) (Or.inl ⟨by rfl, ?_⟩) ?_
      rotate_left
      · intro w hSw; go_simp; (try with_reducible rfl)
      simp only [List.set_cons_zero, List.set_cons_succ]
      refine wpAnyH_takeL (i := 7) 70 (v := ?_) rfl rfl (by kernel_rfl) (by kernel_rfl) (by kernel_rfl) (fun _ _ _ h => h) (by assumption) (Or.inl ⟨by rfl, ?_⟩) ?_
      rotate_left
      · intro w hSw; go_simp; (try with_reducible rfl)
      simp only [List.set_cons_zero, List.set_cons_succ]
      refine wpAnyH_takeL (i := 8) 71 (v := ?_) rfl rfl (by kernel_rfl) (by kernel_rfl) (by kernel_rfl) (fun _ _ _ h => h) (by assumption) (Or.inl ⟨by rfl, ?_⟩) ?_
      rotate_left
      · intro w hSw; go_simp; (try with_reducible rfl)
      simp only [List.set_cons_zero, List.set_cons_succ]
      refine wpAnyH_takeL (i := 9) 72 (v := ?_) rfl rfl (by kernel_rfl) (by kernel_rfl) (by kernel_rfl) (fun _ _ _ h => h) (by assumption) (Or.inl ⟨by rfl, ?_⟩) ?_
      rotate_left
      · intro w hSw; go_simp; (try with_reducible rfl)
      simp only [List.set_cons_zero, List.set_cons_succ]
      refine wpAnyH_takeL (i := 10) 73 (v := .string ⟨B2.toArray⟩) rfl rfl (by kernel_rfl) (by kernel_rfl) (by kernel_rfl) (fun _ _ _ h => h) (by assumption) (Or.inl ⟨by rfl, ?_⟩) ?_
      · intro w hSw; have hx := run_str (P := Tryd.prog) w 27 9 5 _ _ hSw.2.1 Tryd.underlying27 Tryd.underlying5 Tryd.underlying9; go_simp
      simp only [List.set_cons_zero, List.set_cons_succ]
      refine wpAnyH_takeL (i := 11) 74 (v := ?_) rfl rfl (by kernel_rfl) (by kernel_rfl) (by kernel_rfl) (fun _ _ _ h => h) (by assumption) (Or.inl ⟨by rfl, ?_⟩) ?_
      rotate_left
      · intro w hSw; go_simp; (try with_reducible rfl)
      simp only [List.set_cons_zero, List.set_cons_succ]
      refine wpAnyH_takeL (i := 12) 75 (v := ?_) rfl rfl (by kernel_rfl) (by kernel_rfl) (by kernel_rfl) (fun _ _ _ h => h) (by assumption) (Or.inl ⟨by rfl, ?_⟩) ?_
      rotate_left
      · intro w hSw; go_simp; (try with_reducible rfl)
      simp only [List.set_cons_zero, List.set_cons_succ]
      refine wpAnyH_takeL (i := 13) 76 (v := ?_) rfl rfl (by kernel_rfl) (by kernel_rfl) (by kernel_rfl) (fun _ _ _ h => h) (by assumption) (Or.inl ⟨by rfl, ?_⟩) ?_
      rotate_left
      · intro w hSw; go_simp; (try with_reducible rfl)
      simp only [List.set_cons_zero, List.set_cons_succ]
      refine wpAnyH_takeL (i := 14) 77 (v := ?_) rfl rfl (by kernel_rfl) (by kernel_rfl) (by kernel_rfl) (fun _ _ _ h => h) (by assumption) (Or.inl ⟨by rfl, ?_⟩) ?_
      rotate_left
      · intro w hSw; go_simp; (try with_reducible rfl)
      simp only [List.set_cons_zero, List.set_cons_succ]
      refine wpAnyH_takeL (i := 15) 78 (v := ?_) rfl rfl (by kernel_rfl) (by kernel_rfl) (by kernel_rfl) (fun _ _ _ h => h) (by assumption) (Or.inl ⟨by rfl, ?_⟩) ?_
      rotate_left
      · intro w hSw; go_simp; (try with_reducible rfl)
      simp only [List.set_cons_zero, List.set_cons_succ]
      refine wpAnyH_takeL (i := 16) 79 (v := ?_) rfl rfl (by kernel_rfl) (by kernel_rfl) (by kernel_rfl) (fun _ _ _ h => h) (by assumption) (Or.inl ⟨by rfl, ?_⟩) ?_
      rotate_left
      · intro w hSw; go_simp; (try with_reducible rfl)
      simp only [List.set_cons_zero, List.set_cons_succ]
      refine wpAnyH_takeL (i := 17) 80 (v := ?_) rfl rfl (by kernel_rfl) (by kernel_rfl) (by kernel_rfl) (fun _ _ _ h => h) (by assumption) (Or.inl ⟨by rfl, ?_⟩) ?_
      rotate_left
      · intro w hSw; go_simp; (try with_reducible rfl)
      simp only [List.set_cons_zero, List.set_cons_succ]
      refine wpAnyH_takeL (i := 18) 81 (v := ?_) rfl rfl (by kernel_rfl) (by kernel_rfl) (by kernel_rfl) (fun _ _ _ h => h) (by assumption) (Or.inl ⟨by rfl, ?_⟩) ?_
      rotate_left
      · intro w hSw; go_simp; (try with_reducible rfl)
      simp only [List.set_cons_zero, List.set_cons_succ]
      refine wpAnyH_takeL (i := 19) 82 (v := ?_) rfl rfl (by kernel_rfl) (by kernel_rfl) (by kernel_rfl) (fun _ _ _ h => h) (by assumption) (Or.inl ⟨by rfl, ?_⟩) ?_
      rotate_left
      · intro w hSw; go_simp; (try with_reducible rfl)
      simp only [List.set_cons_zero, List.set_cons_succ]
      refine wpAnyH_takeL (i := 20) 83 (v := undef) rfl rfl (by kernel_rfl) (by kernel_rfl) (by kernel_rfl) (fun _ _ _ h => h) (by assumption) (Or.inr ⟨by rfl, rfl⟩) ?_
      simp only [List.set_cons_zero, List.set_cons_succ]
      refine wpAnyH_takeL (i := 21) 84 (v := undef) rfl rfl (by kernel_rfl) (by kernel_rfl) (by kernel_rfl) (fun _ _ _ h => h) (by assumption) (Or.inr ⟨by rfl, rfl⟩) ?_
      simp only [List.set_cons_zero, List.set_cons_succ]
      refine wpAnyH_takeL (i := 22) 85 (v := ?_) rfl rfl (by kernel_rfl) (by kernel_rfl) (by kernel_rfl) (fun _ _ _ h => h) (by assumption) (Or.inl ⟨by rfl, ?_⟩) ?_
      rotate_left
      · intro w hSw; go_simp; (try with_reducible rfl)
      simp only [List.set_cons_zero, List.set_cons_succ]
      refine wpAnyH_takeL (i := 23) 86 (v := ?_) rfl rfl (by kernel_rfl) (by kernel_rfl) (by kernel_rfl) (fun _ _ _ h => h) (by assumption) (Or.inl ⟨by rfl, ?_⟩) ?_
      rotate_left
      · intro w hSw; go_simp; (try with_reducible rfl)
      simp only [List.set_cons_zero, List.set_cons_succ]
      refine wpAnyH_takeL (i := 24) 6 (v := ?_) rfl rfl (by kernel_rfl) (by kernel_rfl) (by kernel_rfl) (fun _ _ _ h => h) (by assumption) (Or.inl ⟨by rfl, ?_⟩) ?_
      rotate_left
      · intro w hSw; go_simp; (try with_reducible rfl)
      simp only [List.set_cons_zero, List.set_cons_succ]
      refine wpAnyH_done (by kernel_rfl) ?_ _
      go_wp2_with fail
      go_ret
      exact ⟨rfl, HF6.out.non (Fr.drew _)⟩
    · skip
      have htb := HTO.out.symm.trans hg
      have her := (out_bad (enc := enc) hg).2
      rw [her]
      have hz1 : ¬ (z : Int) = 0 := by omega
      have hz2 : ((z : Int) != 0) = true := bne_iff_ne.2 hz1
      have hSb : (fun w' : World => Row w' (.slice (some ⟨X, 0, none⟩) 16 16) (bs T) ∧ Row w' x2 (bs B2) ∧ w'.cell? ⟨P + 1, 1, none⟩ = some (.int .u16 y)) z6.drew := ⟨HT6.out.non (Fr.drew _), HX6.out.non (Fr.drew _), (Fr.drew z6).cell HA6.out (fun h => h)⟩
      go_upto_region 8 with (fail)
      refine wp_region_held_drew (S := fun w' => Row w' (.slice (some ⟨X, 0, none⟩) 16 16) (bs T) ∧ Row w' x2 (bs B2) ∧ w'.cell? ⟨P + 1, 1, none⟩ = some (.int .u16 y)) (by kernel_rfl) hSb (fun hHeld => ?_)
      refine wpAnyH_takeL (i := 0) 63 (v := ?_) rfl rfl (by kernel_rfl) (by kernel_rfl) (by kernel_rfl) (fun _ _ _ h => h) (by assumption) (Or.inl ⟨by rfl, ?_⟩) ?_
      rotate_left
      · intro w hSw; go_simp; (try with_reducible rfl)
      simp only [List.set_cons_zero, List.set_cons_succ]
      refine wpAnyH_takeL (i := 1) 64 (v := ?_) rfl rfl (by kernel_rfl) (by kernel_rfl) (by kernel_rfl) (fun _ _ _ h => h) (by assumption) (Or.inl ⟨by rfl, ?_⟩) ?_
      rotate_left
      · intro w hSw; go_simp; (try with_reducible rfl)
      simp only [List.set_cons_zero, List.set_cons_succ]
      refine wpAnyH_takeL (i := 2) 65 (v := ?_) rfl rfl (by kernel_rfl) (by kernel_rfl) (by kernel_rfl) (fun _ _ _ h => h) (by assumption) (Or.inl ⟨by rfl, ?_⟩) ?_
      rotate_left
      · intro w hSw; go_simp; (try with_reducible rfl)
      simp only [List.set_cons_zero, List.set_cons_succ]
      refine wpAnyH_takeL (i := 3) 66 (v := ?_) rfl rfl (by kernel_rfl) (by kernel_rfl) (by kernel_rfl) (fun _ _ _ h => h) (by assumption) (Or.inl ⟨by rfl, ?_⟩) ?_
      rotate_left
      · intro w hSw; go_simp; (try with_reducible rfl)
      simp only [List.set_cons_zero, List.set_cons_succ]
      refine wpAnyH_takeL (i := 4) 67 (v := ?_) rfl rfl (by kernel_rfl) (by kernel_rfl) (by kernel_rfl) (fun _ _ _ h => h) (by assumption) (Or.inl ⟨by rfl, ?_⟩) ?_
      rotate_left
      · intro w hSw; go_simp; (try with_reducible rfl)
      simp only [List.set_cons_zero, List.set_cons_succ]
      refine wpAnyH_takeL (i := 5) 68 (v := .string ⟨T.toArray⟩) rfl rfl (by kernel_rfl) (by kernel_rfl) (by kernel_rfl) (fun _ _ _ h => h) (by assumption) (Or.inl ⟨by rfl, ?_⟩) ?_
      · intro w hSw; have hx := run_str (P := Tryd.prog) w 27 9 5 _ _ hSw.1 Tryd.underlying27 Tryd.underlying5 Tryd.underlying9; go_simp
      simp only [List.set_cons_zero, List.set_cons_succ]
      refine wpAnyH_takeL (i := 6) 69 (v := ?_) rfl rfl (by kernel_rfl) (by kernel_rfl) (by kernel_rfl) (fun _ _ _ h => h) (by assumption) (Or.inl ⟨by rfl, ?_⟩) ?_
      rotate_left
      · intro w hSw; go_simp; (try with_reducible rfl)
      simp only [List.set_cons_zero, List.set_cons_succ]
      refine wpAnyH_takeL (i := 7) 70 (v := ?_) rfl rfl (by kernel_rfl) (by kernel_rfl) (by kernel_rfl) (fun _ _ _ h => h) (by assumption) (Or.inl ⟨by rfl, ?_⟩) ?_
      rotate_left
      · intro w hSw; go_simp; (try with_reducible rfl)
      simp only [List.set_cons_zero, List.set_cons_succ]
      refine wpAnyH_takeL (i := 8) 71 (v := ?_) rfl rfl (by kernel_rfl) (by kernel_rfl) (by kernel_rfl) (fun _ _ _ h => h) (by assumption) (Or.inl ⟨by rfl, ?_⟩) ?_
      rotate_left
      · intro w hSw; go_simp; (try with_reducible rfl)
      simp only [List.set_cons_zero, List.set_cons_succ]
      refine wpAnyH_takeL (i := 9) 72 (v := ?_) rfl rfl (by kernel_rfl) (by kernel_rfl) (by kernel_rfl) (fun _ _ _ h => h) (by assumption) (Or.inl ⟨by rfl, ?_⟩) ?_
      rotate_left
      · intro w hSw; go_simp; (try with_reducible rfl)
      simp only [List.set_cons_zero, List.set_cons_succ]
      refine wpAnyH_takeL (i := 10) 73 (v := .string ⟨B2.toArray⟩) rfl rfl (by kernel_rfl) (by kernel_rfl) (by kernel_rfl) (fun _ _ _ h => h) (by assumption) (Or.inl ⟨by rfl, ?_⟩) ?_
      · intro w hSw; have hx := run_str (P := Tryd.prog) w 27 9 5 _ _ hSw.2.1 Tryd.underlying27 Tryd.underlying5 Tryd.underlying9; go_simp
      simp only [List.set_cons_zero, List.set_cons_succ]
      refine wpAnyH_takeL (i := 11) 74 (v := ?_) rfl rfl (by kernel_rfl) (by kernel_rfl) (by kernel_rfl) (fun _ _ _ h => h) (by assumption) (Or.inl ⟨by rfl, ?_⟩) ?_
      rotate_left
      · intro w hSw; go_simp; (try with_reducible rfl)
      simp only [List.set_cons_zero, List.set_cons_succ]
      refine wpAnyH_takeL (i := 12) 75 (v := ?_) rfl rfl (by kernel_rfl) (by kernel_rfl) (by kernel_rfl) (fun _ _ _ h => h) (by assumption) (Or.inl ⟨by rfl, ?_⟩) ?_
      rotate_left
      · intro w hSw; go_simp; (try with_reducible rfl)
      simp only [List.set_cons_zero, List.set_cons_succ]
      refine wpAnyH_takeL (i := 13) 76 (v := ?_) rfl rfl (by kernel_rfl) (by kernel_rfl) (by kernel_rfl) (fun _ _ _ h => h) (by assumption) (Or.inl ⟨by rfl, ?_⟩) ?_
      rotate_left
      · intro w hSw; go_simp; (try with_reducible rfl)
      simp only [List.set_cons_zero, List.set_cons_succ]
      refine wpAnyH_takeL (i := 14) 77 (v := ?_) rfl rfl (by kernel_rfl) (by kernel_rfl) (by kernel_rfl) (fun _ _ _ h => h) (by assumption) (Or.inl ⟨by rfl, ?_⟩) ?_
      rotate_left
      · intro w hSw; go_simp; (try with_reducible rfl)
      simp only [List.set_cons_zero, List.set_cons_succ]
      refine wpAnyH_takeL (i := 15) 78 (v := ?_) rfl rfl (by kernel_rfl) (by kernel_rfl) (by kernel_rfl) (fun _ _ _ h => h) (by assumption) (Or.inl ⟨by rfl, ?_⟩) ?_
      rotate_left
      · intro w hSw; go_simp; (try with_reducible rfl)
      simp only [List.set_cons_zero, List.set_cons_succ]
      refine wpAnyH_takeL (i := 16) 79 (v := ?_) rfl rfl (by kernel_rfl) (by kernel_rfl) (by kernel_rfl) (fun _ _ _ h => h) (by assumption) (Or.inl ⟨by rfl, ?_⟩) ?_
      rotate_left
      · intro w hSw; go_simp; (try with_reducible rfl)
      simp only [List.set_cons_zero, List.set_cons_succ]
      refine wpAnyH_takeL (i := 17) 80 (v := ?_) rfl rfl (by kernel_rfl) (by kernel_rfl) (by kernel_rfl) (fun _ _ _ h => h) (by assumption) (Or.inl ⟨by rfl, ?_⟩) ?_
      rotate_left
      · intro w hSw; go_simp; (try with_reducible rfl)
      simp only [List.set_cons_zero, List.set_cons_succ]
      refine wpAnyH_takeL (i := 18) 81 (v := ?_) rfl rfl (by kernel_rfl) (by kernel_rfl) (by kernel_rfl) (fun _ _ _ h => h) (by assumption) (Or.inl ⟨by rfl, ?_⟩) ?_
      rotate_left
      · intro w hSw; go_simp; (try with_reducible rfl)
      simp only [List.set_cons_zero, List.set_cons_succ]
      refine wpAnyH_takeL (i := 19) 82 (v := ?_) rfl rfl (by kernel_rfl) (by kernel_rfl) (by kernel_rfl) (fun _ _ _ h => h) (by assumption) (Or.inl ⟨by rfl, ?_⟩) ?_
      rotate_left
      · intro w hSw; go_simp; (try with_reducible rfl)
      simp only [List.set_cons_zero, List.set_cons_succ]
      refine wpAnyH_takeL (i := 20) 83 (v := undef) rfl rfl (by kernel_rfl) (by kernel_rfl) (by kernel_rfl) (fun _ _ _ h => h) (by assumption) (Or.inr ⟨by rfl, rfl⟩) ?_
      simp only [List.set_cons_zero, List.set_cons_succ]
      refine wpAnyH_takeL (i := 21) 84 (v := undef) rfl rfl (by kernel_rfl) (by kernel_rfl) (by kernel_rfl) (fun _ _ _ h => h) (by assumption) (Or.inr ⟨by rfl, rfl⟩) ?_
      simp only [List.set_cons_zero, List.set_cons_succ]
      refine wpAnyH_takeL (i := 22) 85 (v := ?_) rfl rfl (by kernel_rfl) (by kernel_rfl) (by kernel_rfl) (fun _ _ _ h => h) (by assumption) (Or.inl ⟨by rfl, ?_⟩) ?_
      rotate_left
      · intro w hSw; go_simp; (try with_reducible rfl)
      simp only [List.set_cons_zero, List.set_cons_succ]
      refine wpAnyH_takeL (i := 23) 86 (v := ?_) rfl rfl (by kernel_rfl) (by kernel_rfl) (by kernel_rfl) (fun _ _ _ h => h) (by assumption) (Or.inl ⟨by rfl, ?_⟩) ?_
      rotate_left
      · intro w hSw; go_simp; (try with_reducible rfl)
      simp only [List.set_cons_zero, List.set_cons_succ]
      refine wpAnyH_takeL (i := 24) 6 (v := ?_) rfl rfl (by kernel_rfl) (by kernel_rfl) (by kernel_rfl) (fun _ _ _ h => h) (by assumption) (Or.inl ⟨by rfl, ?_⟩) ?_
      rotate_left
      · intro w hSw; go_simp; (try with_reducible rfl)
      simp only [List.set_cons_zero, List.set_cons_succ]
      refine wpAnyH_done (by kernel_rfl) ?_ _
      go_wp2_with fail
      go_ret
      exact ⟨rfl, HF6.out.non (Fr.drew _)⟩
  · skip
    go_simp
    obtain ⟨X, hX⟩ : ∃ X, X = w4.heap.size := ⟨_, rfl⟩
    have hXW : W.heap.size ≤ X := by have h2 := Fr.size (S := Non) (w := W) (HF4.out.non (Fr.refl _ _)); omega
    have hX4 : w4.heap.size ≤ X := by have h2 := Fr.size (S := Non) (w := w4) (Fr.refl _ _); omega
    obtain ⟨r1, hw1⟩ : ∃ w', w' = w4.alloc (.cells #[.int .u8 0, .int .u8 0, .int .u8 0, .int .u8 0, .int .u8 0, .int .u8 0, .int .u8 0, .int .u8 0, .int .u8 0, .int .u8 0, .int .u8 0, .int .u8 0, .int .u8 0, .int .u8 0, .int .u8 0, .int .u8 0] 32) := ⟨_, rfl⟩
    rw [← hw1]
    have F1 : Hid (Fr Non w4 r1) := Lib.hid (by rw [hw1]; exact Fr.alloc _ _)
    have BX : Hid (Blk r1 X 32 (bs (List.replicate 16 0))) := Lib.hid (by rw [hw1]; exact by rw [hX]; exact Blk.new _ _ _)
    clear hw1
    rw [← hX]
    have HXX := Lib.hid (And.intro hXW hX4)
    clear hX hXW hX4
    refine hK.out _ _ (HQ4.out.non F1.out) (fun hHeld => ?_)
    clear hK K
    refine wpAnyH_ready (rs := [10]) (by kernel_rfl) (by simp) ?_
    refine AllReadyH.cons (o := ⟨some 51, _, _, _, _, _⟩) rfl (fun K hK => ?_) (AllReadyH.nil)
    go_simp
    go_wp2_with (go_at_call 11; refine (tagS_any enc mac nonce va x1 ad B1 _ HL.out.1 HL.out.2.1 HL.out.2.2 (HVA.out.non (HF4.out.non F1.out)) (HX14.out.non F1.out) hal (by rw [HL1.out]; exact hl) (HT.out.1.non (HF4.out.non F1.out))).mono ?_; rintro e r2 ⟨rfl, hf2⟩)
    have htl := sealTag_length mac nonce ad B1
    have F2 : Hid (Fr Non r1 r2) := Lib.hid hf2
    clear hf2
    generalize sealTag mac nonce ad B1 = T at HTO htl ⊢
    have HTL := Lib.hid htl
    clear htl
    refine hK.out _ _ (HQ4.out.non (F1.out.non F2.out)) (fun hHeld => ?_)
    clear hK K
    refine wpAnyH_ready (rs := [12]) (by kernel_rfl) (by simp) ?_
    refine AllReadyH.cons (o := ⟨none, _, _, _, _, _⟩) rfl (fun K hK => ?_) (AllReadyH.nil)
    rw [if_pos (by rfl)]
    have hbx := BX.out.non F2.out
    have hdl : (bs T).toArray.size = 16 := by rw [List.size_toArray, bs_length, HTL.out]
    refine wp_store_mid 32 (.tmp 9) (.tmp 51) rfl X 0 (bs T).toArray rfl rfl (by rw [hdl]; exact hbx.there 0 16 (by simp [bs_length])) (by rw [hdl]; exact HID.out) (all_oneCell_toArray (bs_one T)) ?_
    have hst := Blk.setCells (bs T) _ _ 0 hbx (by simp [bs_length, HTL.out])
    have hfs := Fr.setCells' X (bs T) r2 0
    rw [splice_all _ _ (by simp [bs_length, HTL.out])] at hst
    have hfw : Fr Non w4 r2 := (F1.out.non F2.out)
    obtain ⟨z5, hz5⟩ : ∃ z5, z5 = r2.setCells X 0 (bs T).toArray.toList := ⟨_, rfl⟩
    rw [show (bs T) = (bs T).toArray.toList from rfl, ← hz5] at hst hfs
    rw [← hz5]
    have HST := Lib.hid hst
    have HFW := Lib.hid (hfw.new hfs (fun i h => by have h1 : i = X := h; have h2 := HXX.out.2; omega))
    clear hst hfs hfw hbx hdl hz5
    simp only [Act.put]
    refine hK.out _ _ (HQ4.out.non HFW.out) (fun hHeld => ?_)
    clear hK K
    refine wpAnyH_done (by kernel_rfl) ?_ _
    clear hHeld hsl1
    have HF5 := Lib.hid (HF4.out.non HFW.out)
    have HQ5 := Lib.hid (HQ4.out.non HFW.out)
    have HTX := Lib.hid (HST.out.part 0 16 T HTL.out (by unfold maxLen; omega) (fun j v hj => by rw [Nat.zero_add]; exact hj))
    have HR5 := Lib.hid (HR4.out.non HFW.out)
    have HX25 := Lib.hid (HX24.out.non HFW.out)
    have hcn := HQ5.out.2.2
    go_upto_region 7 with (fail)
    go_wp2_with ((with_reducible show wpList _ _ _ (({ op := .load _ _, .. } : Oper) :: _) _ _); first | (refine wpList_load_mid rfl 24 _ rfl P 0 rfl (keyCells enc mac) _ HQ5.out.1 huk rfl hik ?_) | (refine wpList_load_mid rfl 26 _ rfl P 64 rfl (bs nonce) _ HQ5.out.2.1 hun rfl hin ?_))
    refine (openS_any enc mac nonce va v3 ad B z5 HL.out.1 HL.out.2.1 HL.out.2.2 (HVA.out.non HF5.out) HR5.out hal (by rw [HBL.out]; omega) (HT.out.1.non HF5.out) (HT.out.2.non HF5.out)).mono ?_
    rintro e z6 ⟨v6, rfl, -, hf6⟩
    have HF6 := Lib.hid (HF5.out.non hf6)
    have HT6 := Lib.hid (HTX.out.non hf6)
    have HX6 := Lib.hid (HX25.out.non hf6)
    have HA6 := Lib.hid (HAC.out _ (HFD.out.non (HFW.out.non hf6)))
    clear hf6 hcn
    have hsl2 := HSL.out.2
    have hsl1 := HSL.out.1
    rcases HCASE.out with ⟨hz, hg⟩ | ⟨hz, hg⟩ | ⟨hz, hg⟩
    · skip
      have htb := HTO.out.symm.trans hg
      have her := (out_good (enc := enc) hg).2
      rw [her]
      have hz1 : (z : Int) = 0 := by omega
      have hz2 : ((z : Int) != 0) = false := by rw [hz1]; rfl
      have hSb : (fun w' : World => Row w' (.slice (some ⟨X, 0, none⟩) 16 16) (bs T) ∧ Row w' x2 (bs B2) ∧ w'.cell? ⟨P + 1, 1, none⟩ = some (.int .u16 y)) z6.drew := ⟨HT6.out.non (Fr.drew _), HX6.out.non (Fr.drew _), (Fr.drew z6).cell HA6.out (fun h => h)⟩
      go_upto_region 8 with (fail)
      refine wp_region_held_drew (S := fun w' => Row w' (.slice (some ⟨X, 0, none⟩) 16 16) (bs T) ∧ Row w' x2 (bs B2) ∧ w'.cell? ⟨P + 1, 1, none⟩ = some (.int .u16 y)) (by kernel_rfl) hSb (fun hHeld => ?_)
      refine wpAnyH_takeL (i := 0) 63 (v := ?_) rfl rfl (by kernel_rfl) (by kernel_rfl) (by kernel_rfl) (fun _ _ _ h => h) (by assumption) (Or.inl ⟨by rfl, ?_⟩) ?_
      rotate_left
      · intro w hSw; go_simp; (try with_reducible rfl)
      simp only [List.set_cons_zero, List.set_cons_succ]
      refine wpAnyH_takeL (i := 1) 64 (v := ?_) rfl rfl (by kernel_rfl) (by kernel_rfl) (by kernel_rfl) (fun _ _ _ h => h) (by assumption) (Or.inl ⟨by rfl, ?_⟩) ?_
      rotate_left
      · intro w hSw; go_simp; (try with_reducible rfl)
      simp only [List.set_cons_zero, List.set_cons_succ]
      refine wpAnyH_takeL (i := 2) 65 (v := ?_) rfl rfl (by kernel_rfl) (by kernel_rfl) (by kernel_rfl) (fun _ _ _ h => h) (by assumption) (Or.inl ⟨by rfl, ?_⟩) ?_
      rotate_left
      · intro w hSw; go_simp; (try with_reducible rfl)
      simp only [List.set_cons_zero, List.set_cons_succ]
      refine wpAnyH_takeL (i := 3) 66 (v := ?_) rfl rfl (by kernel_rfl) (by kernel_rfl) (by kernel_rfl) (fun _ _ _ h => h) (by assumption) (Or.inl ⟨by rfl, ?_⟩) ?_
      rotate_left
      · intro w hSw; go_simp; (try with_reducible rfl)
      simp only [List.set_cons_zero, List.set_cons_succ]
      refine wpAnyH_takeL (i := 4) 67 (v := ?_) rfl rfl (by kernel_rfl) (by kernel_rfl) (by kernel_rfl) (fun _ _ _ h => h) (by assumption) (Or.inl ⟨by rfl, ?_⟩) ?_
      rotate_left
      · intro w hSw; go_simp; (try with_reducible rfl)
      simp only [List.set_cons_zero, List.set_cons_succ]
      refine wpAnyH_takeL (i := 5) 68 (v := .string ⟨T.toArray⟩) rfl rfl (by kernel_rfl) (by kernel_rfl) (by kernel_rfl) (fun _ _ _ h => h) (by assumption) (Or.inl ⟨by rfl, ?_⟩) ?_
      · intro w hSw; have hx := run_str (P := Tryd.prog) w 27 9 5 _ _ hSw.1 Tryd.underlying27 Tryd.underlying5 Tryd.underlying9; go_simp
      simp only [List.set_cons_zero, List.set_cons_succ]
      refine wpAnyH_takeL (i := 6) 69 (v := ?_) rfl rfl (by kernel_rfl) (by kernel_rfl) (by kernel_rfl) (fun _ _ _ h => h) (by assumption) (Or.inl ⟨by rfl, ?_⟩) ?_
      rotate_left
      · intro w hSw; go_simp; (try with_reducible rfl)
      simp only [List.set_cons_zero, List.set_cons_succ]
      refine wpAnyH_takeL (i := 7) 70 (v := ?_) rfl rfl (by kernel_rfl) (by kernel_rfl) (by kernel_rfl) (fun _ _ _ h => h) (by assumption) (Or.inl ⟨by rfl, ?_⟩) ?_
      rotate_left
      · intro w hSw; go_simp; (try with_reducible rfl)
      simp only [List.set_cons_zero, List.set_cons_succ]
      refine wpAnyH_takeL (i := 8) 71 (v := ?_) rfl rfl (by kernel_rfl) (by kernel_rfl) (by kernel_rfl) (fun _ _ _ h => h) (by assumption) (Or.inl ⟨by rfl, ?_⟩) ?_
      rotate_left
      · intro w hSw; go_simp; (try with_reducible rfl)
      simp only [List.set_cons_zero, List.set_cons_succ]
      refine wpAnyH_takeL (i := 9) 72 (v := ?_) rfl rfl (by kernel_rfl) (by kernel_rfl) (by kernel_rfl) (fun _ _ _ h => h) (by assumption) (Or.inl ⟨by rfl, ?_⟩) ?_
      rotate_left
      · intro w hSw; go_simp; (try with_reducible rfl)
      simp only [List.set_cons_zero, List.set_cons_succ]
      refine wpAnyH_takeL (i := 10) 73 (v := .string ⟨B2.toArray⟩) rfl rfl (by kernel_rfl) (by kernel_rfl) (by kernel_rfl) (fun _ _ _ h => h) (by assumption) (Or.inl ⟨by rfl, ?_⟩) ?_
      · intro w hSw; have hx := run_str (P := Tryd.prog) w 27 9 5 _ _ hSw.2.1 Tryd.underlying27 Tryd.underlying5 Tryd.underlying9; go_simp
      simp only [List.set_cons_zero, List.set_cons_succ]
      refine wpAnyH_takeL (i := 11) 74 (v := ?_) rfl rfl (by kernel_rfl) (by kernel_rfl) (by kernel_rfl) (fun _ _ _ h => h) (by assumption) (Or.inl ⟨by rfl, ?_⟩) ?_
      rotate_left
      · intro w hSw; go_simp; (try with_reducible rfl)
      simp only [List.set_cons_zero, List.set_cons_succ]
      refine wpAnyH_takeL (i := 12) 75 (v := ?_) rfl rfl (by kernel_rfl) (by kernel_rfl) (by kernel_rfl) (fun _ _ _ h => h) (by assumption) (Or.inl ⟨by rfl, ?_⟩) ?_
      rotate_left
      · intro w hSw; go_simp; (try with_reducible rfl)
      simp only [List.set_cons_zero, List.set_cons_succ]
      refine wpAnyH_takeL (i := 13) 76 (v := ?_) rfl rfl (by kernel_rfl) (by kernel_rfl) (by kernel_rfl) (fun _ _ _ h => h) (by assumption) (Or.inl ⟨by rfl, ?_⟩) ?_
      rotate_left
      · intro w hSw; go_simp; (try with_reducible rfl)
      simp only [List.set_cons_zero, List.set_cons_succ]
      refine wpAnyH_takeL (i := 14) 77 (v := ?_) rfl rfl (by kernel_rfl) (by kernel_rfl) (by kernel_rfl) (fun _ _ _ h => h) (by assumption) (Or.inl ⟨by rfl, ?_⟩) ?_
      rotate_left
      · intro w hSw; go_simp; (try with_reducible rfl)
      simp only [List.set_cons_zero, List.set_cons_succ]
      refine wpAnyH_takeL (i := 15) 78 (v := ?_) rfl rfl (by kernel_rfl) (by kernel_rfl) (by kernel_rfl) (fun _ _ _ h => h) (by assumption) (Or.inl ⟨by rfl, ?_⟩) ?_
      rotate_left
      · intro w hSw; go_simp; (try with_reducible rfl)
      simp only [List.set_cons_zero, List.set_cons_succ]
      refine wpAnyH_takeL (i := 16) 79 (v := ?_) rfl rfl (by kernel_rfl) (by kernel_rfl) (by kernel_rfl) (fun _ _ _ h => h) (by assumption) (Or.inl ⟨by rfl, ?_⟩) ?_
      rotate_left
      · intro w hSw; go_simp; (try with_reducible rfl)
      simp only [List.set_cons_zero, List.set_cons_succ]
      refine wpAnyH_takeL (i := 17) 80 (v := ?_) rfl rfl (by kernel_rfl) (by kernel_rfl) (by kernel_rfl) (fun _ _ _ h => h) (by assumption) (Or.inl ⟨by rfl, ?_⟩) ?_
      rotate_left
      · intro w hSw; go_simp; (try with_reducible rfl)
      simp only [List.set_cons_zero, List.set_cons_succ]
      refine wpAnyH_takeL (i := 18) 81 (v := ?_) rfl rfl (by kernel_rfl) (by kernel_rfl) (by kernel_rfl) (fun _ _ _ h => h) (by assumption) (Or.inl ⟨by rfl, ?_⟩) ?_
      rotate_left
      · intro w hSw; go_simp; (try with_reducible rfl)
      simp only [List.set_cons_zero, List.set_cons_succ]
      refine wpAnyH_takeL (i := 19) 82 (v := ?_) rfl rfl (by kernel_rfl) (by kernel_rfl) (by kernel_rfl) (fun _ _ _ h => h) (by assumption) (Or.inl ⟨by rfl, ?_⟩) ?_
      rotate_left
      · intro w hSw; go_simp; (try with_reducible rfl)
      simp only [List.set_cons_zero, List.set_cons_succ]
      refine wpAnyH_takeL (i := 20) 83 (v := ?_) rfl rfl (by kernel_rfl) (by kernel_rfl) (by kernel_rfl) (fun _ _ _ h => h) (by assumption) (Or.inl ⟨by rfl, ?_⟩) ?_
      rotate_left
      · intro w hSw; go_simp; (try with_reducible rfl)
      simp only [List.set_cons_zero, List.set_cons_succ]
      refine wpAnyH_takeL (i := 21) 84 (v := ?_) rfl rfl (by kernel_rfl) (by kernel_rfl) (by kernel_rfl) (fun _ _ _ h => h) (by assumption) (Or.inl ⟨by rfl, ?_⟩) ?_
      rotate_left
      · intro w hSw; go_simp; (try with_reducible rfl)
      simp only [List.set_cons_zero, List.set_cons_succ]
      refine wpAnyH_takeL (i := 22) 85 (v := ?_) rfl rfl (by kernel_rfl) (by kernel_rfl) (by kernel_rfl) (fun _ _ _ h => h) (by assumption) (Or.inl ⟨by rfl, ?_⟩) ?_
      rotate_left
      · intro w hSw; go_simp; (try with_reducible rfl)
      simp only [List.set_cons_zero, List.set_cons_succ]
      refine wpAnyH_takeL (i := 23) 86 (v := ?_) rfl rfl (by kernel_rfl) (by kernel_rfl) (by kernel_rfl) (fun _ _ _ h => h) (by assumption) (Or.inl ⟨by rfl, ?_⟩) ?_
      rotate_left
      · intro w hSw; go_simp; (try with_reducible rfl)
      simp only [List.set_cons_zero, List.set_cons_succ]
      refine wpAnyH_takeL (i := 24) 6 (v := ?_) rfl rfl (by kernel_rfl) (by kernel_rfl) (by kernel_rfl) (fun _ _ _ h => h) (by assumption) (Or.inl ⟨by rfl, ?_⟩) ?_
      rotate_left
      · intro w hSw; go_simp; (try with_reducible rfl)
      simp only [List.set_cons_zero, List.set_cons_succ]
      refine wpAnyH_done (by kernel_rfl) ?_ _
      go_wp2_with fail
      go_ret
      exact ⟨rfl, HF6.out.non (Fr.drew _)⟩
    · skip
      have htb := HTO.out.symm.trans hg
      have her := (out_good (enc := enc) hg).2
      rw [her]
      have hz1 : ¬ (z : Int) = 0 := by omega
      have hz2 : ((z : Int) != 0) = true := bne_iff_ne.2 hz1
      have hSb : (fun w' : World => Row w' (.slice (some ⟨X, 0, none⟩) 16 16) (bs T) ∧ Row w' x2 (bs B2) ∧ w'.cell? ⟨P + 1, 1, none⟩ = some (.int .u16 y)) z6.drew := ⟨HT6.out.non (Fr.drew _), HX6.out.non (Fr.drew _), (Fr.drew z6).cell HA6.out (fun h => h)⟩
      go_upto_region 8 with (fail)
      refine wp_region_held_drew (S := fun w' => Row w' (.slice (some ⟨X, 0, none⟩) 16 16) (bs T) ∧ Row w' x2 (bs B2) ∧ w'.cell? ⟨P + 1, 1, none⟩ = some (.int .u16 y)) (by kernel_rfl) hSb (fun hHeld => ?_)
      refine wpAnyH_takeL (i := 0) 63 (v := ?_) rfl rfl (by kernel_rfl) (by kernel_rfl) (by kernel_rfl) (fun _ _ _ h => h) (by assumption) (Or.inl ⟨by rfl, ?_⟩) ?_
      rotate_left
      · intro w hSw; go_simp; (try with_reducible rfl)
      simp only [List.set_cons_zero, List.set_cons_succ]
      refine wpAnyH_takeL (i := 1) 64 (v := ?_) rfl rfl (by kernel_rfl) (by kernel_rfl) (by kernel_rfl) (fun _ _ _ h => h) (by assumption) (Or.inl ⟨by rfl, ?_⟩) ?_
      rotate_left
      · intro w hSw; go_simp; (try with_reducible rfl)
      simp only [List.set_cons_zero, List.set_cons_succ]
      refine wpAnyH_takeL (i := 2) 65 (v := ?_) rfl rfl (by kernel_rfl) (by kernel_rfl) (by kernel_rfl) (fun _ _ _ h => h) (by assumption) (Or.inl ⟨by rfl, ?_⟩) ?_
      rotate_left
      · intro w hSw; go_simp; (try with_reducible rfl)
      simp only [List.set_cons_zero, List.set_cons_succ]
      refine wpAnyH_takeL (i := 3) 66 (v := ?_) rfl rfl (by kernel_rfl) (by kernel_rfl) (by kernel_rfl) (fun _ _ _ h => h) (by assumption) (Or.inl ⟨by rfl, ?_⟩) ?_
      rotate_left
      · intro w hSw; go_simp; (try with_reducible rfl)
      simp only [List.set_cons_zero, List.set_cons_succ]
      refine wpAnyH_takeL (i := 4) 67 (v := ?_) rfl rfl (by kernel_rfl) (by kernel_rfl) (by kernel_rfl) (fun _ _ _ h => h) (by assumption) (Or.inl ⟨by rfl, ?_⟩) ?_
      rotate_left
      · intro w hSw; go_simp; (try with_reducible rfl)
      simp only [List.set_cons_zero, List.set_cons_succ]
      refine wpAnyH_takeL (i := 5) 68 (v := .string ⟨T.toArray⟩) rfl rfl (by kernel_rfl) (by kernel_rfl) (by kernel_rfl) (fun _ _ _ h => h) (by assumption) (Or.inl ⟨by rfl, ?_⟩) ?_
      · intro w hSw; have hx := run_str (P := Tryd.prog) w 27 9 5 _ _ hSw.1 Tryd.underlying27 Tryd.underlying5 Tryd.underlying9; go_simp
      simp only [List.set_cons_zero, List.set_cons_succ]
      refine wpAnyH_takeL (i := 6) 69 (v := ?_) rfl rfl (by kernel_rfl) (by kernel_rfl) (by kernel_rfl) (fun _ _ _ h => h) (by assumption) (Or.inl ⟨by rfl, ?_⟩) ?_
      rotate_left
      · intro w hSw; go_simp; (try with_reducible rfl)
      simp only [List.set_cons_zero, List.set_cons_succ]
      refine wpAnyH_takeL (i := 7) 70 (v := ?_) rfl rfl (by kernel_rfl) (by kernel_rfl) (by kernel_rfl) (fun _ _ _ h => h) (by assumption) (Or.inl ⟨by rfl, ?_⟩) ?_
      rotate_left
      · intro w hSw; go_simp; (try with_reducible rfl)
      simp only [List.set_cons_zero, List.set_cons_succ]
      refine wpAnyH_takeL (i := 8) 71 (v := ?_) rfl rfl (by kernel_rfl) (by kernel_rfl) (by kernel_rfl) (fun _ _ _ h => h) (by assumption) (Or.inl ⟨by rfl, ?_⟩) ?_
      rotate_left
      · intro w hSw; go_simp; (try with_reducible rfl)
      simp only [List.set_cons_zero, List.set_cons_succ]
      refine wpAnyH_takeL (i := 9) 72 (v := ?_) rfl rfl (by kernel_rfl) (by kernel_rfl) (by kernel_rfl) (fun _ _ _ h => h) (by assumption) (Or.inl ⟨by rfl, ?_⟩) ?_
      rotate_left
      · intro w hSw; go_simp; (try with_reducible rfl)
      simp only [List.set_cons_zero, List.set_cons_succ]
      refine wpAnyH_takeL (i := 10) 73 (v := .string ⟨B2.toArray⟩) rfl rfl (by kernel_rfl) (by kernel_rfl) (by kernel_rfl) (fun _ _ _ h => h) (by assumption) (Or.inl ⟨by rfl, ?_⟩) ?_
      · intro w hSw; have hx := run_str (P := Tryd.prog) w 27 9 5 _ _ hSw.2.1 Tryd.underlying27 Tryd.underlying5 Tryd.underlying9; go_simp
      simp only [List.set_cons_zero, List.set_cons_succ]
      refine wpAnyH_takeL (i := 11) 74 (v := ?_) rfl rfl (by kernel_rfl) (by kernel_rfl) (by kernel_rfl) (fun _ _ _ h => h) (by assumption) (Or.inl ⟨by rfl, ?_⟩) ?_
      rotate_left
      · intro w hSw; go_simp; (try with_reducible rfl)
      simp only [List.set_cons_zero, List.set_cons_succ]
      refine wpAnyH_takeL (i := 12) 75 (v := ?_) rfl rfl (by kernel_rfl) (by kernel_rfl) (by kernel_rfl) (fun _ _ _ h => h) (by assumption) (Or.inl ⟨by rfl, ?_⟩) ?_
      rotate_left
      · intro w hSw; go_simp; (try with_reducible rfl)
      simp only [List.set_cons_zero, List.set_cons_succ]
      refine wpAnyH_takeL (i := 13) 76 (v := ?_) rfl rfl (by kernel_rfl) (by kernel_rfl) (by kernel_rfl) (fun _ _ _ h => h) (by assumption) (Or.inl ⟨by rfl, ?_⟩) ?_
      rotate_left
      · intro w hSw; go_simp; (try with_reducible rfl)
      simp only [List.set_cons_zero, List.set_cons_succ]
      refine wpAnyH_takeL (i := 14) 77 (v := ?_) rfl rfl (by kernel_rfl) (by kernel_rfl) (by kernel_rfl) (fun _ _ _ h => h) (by assumption) (Or.inl ⟨by rfl, ?_⟩) ?_
      rotate_left
      · intro w hSw; go_simp; (try with_reducible rfl)
      simp only [List.set_cons_zero, List.set_cons_succ]
      refine wpAnyH_takeL (i := 15) 78 (v := ?_) rfl rfl (by kernel_rfl) (by kernel_rfl) (by kernel_rfl) (fun _ _ _ h => h) (by assumption) (Or.inl ⟨by rfl, ?_⟩) ?_
      rotate_left
      · intro w hSw; go_simp; (try with_reducible rfl)
      simp only [List.set_cons_zero, List.set_cons_succ]
      refine wpAnyH_takeL (i := 16) 79 (v := ?_) rfl rfl (by kernel_rfl) (by kernel_rfl) (by kernel_rfl) (fun _ _ _ h => h) (by assumption) (Or.inl ⟨by rfl, ?_⟩) ?_
      rotate_left
      · intro w hSw; go_simp; (try with_reducible rfl)
      simp only [List.set_cons_zero, List.set_cons_succ]
      refine wpAnyH_takeL (i := 17) 80 (v := ?_) rfl rfl (by kernel_rfl) (by kernel_rfl) (by kernel_rfl) (fun _ _ _ h => h) (by assumption) (Or.inl ⟨by rfl, ?_⟩) ?_
      rotate_left
      · intro w hSw; go_simp; (try with_reducible rfl)
      simp only [List.set_cons_zero, List.set_cons_succ]
      refine wpAnyH_takeL (i := 18) 81 (v := ?_) rfl rfl (by kernel_rfl) (by kernel_rfl) (by kernel_rfl) (fun _ _ _ h => h) (by assumption) (Or.inl ⟨by rfl, ?_⟩) ?_
      rotate_left
      · intro w hSw; go_simp; (try with_reducible rfl)
      simp only [List.set_cons_zero, List.set_cons_succ]
      refine wpAnyH_takeL (i := 19) 82 (v := ?_) rfl rfl (by kernel_rfl) (by kernel_rfl) (by kernel_rfl) (fun _ _ _ h => h) (by assumption) (Or.inl ⟨by rfl, ?_⟩) ?_
      rotate_left
      · intro w hSw; go_simp; (try with_reducible rfl)
      simp only [List.set_cons_zero, List.set_cons_succ]
      refine wpAnyH_takeL (i := 20) 83 (v := undef) rfl rfl (by kernel_rfl) (by kernel_rfl) (by kernel_rfl) (fun _ _ _ h => h) (by assumption) (Or.inr ⟨by rfl, rfl⟩) ?_
      simp only [List.set_cons_zero, List.set_cons_succ]
      refine wpAnyH_takeL (i := 21) 84 (v := undef) rfl rfl (by kernel_rfl) (by kernel_rfl) (by kernel_rfl) (fun _ _ _ h => h) (by assumption) (Or.inr ⟨by rfl, rfl⟩) ?_
      simp only [List.set_cons_zero, List.set_cons_succ]
      refine wpAnyH_takeL (i := 22) 85 (v := ?_) rfl rfl (by kernel_rfl) (by kernel_rfl) (by kernel_rfl) (fun _ _ _ h => h) (by assumption) (Or.inl ⟨by rfl, ?_⟩) ?_
      rotate_left
      · intro w hSw; go_simp; (try with_reducible rfl)
      simp only [List.set_cons_zero, List.set_cons_succ]
      refine wpAnyH_takeL (i := 23) 86 (v := ?_) rfl rfl (by kernel_rfl) (by kernel_rfl) (by kernel_rfl) (fun _ _ _ h => h) (by assumption) (Or.inl ⟨by rfl, ?_⟩) ?_
      rotate_left
      · intro w hSw; go_simp; (try with_reducible rfl)
      simp only [List.set_cons_zero, List.set_cons_succ]
      refine wpAnyH_takeL (i := 24) 6 (v := ?_) rfl rfl (by kernel_rfl) (by kernel_rfl) (by kernel_rfl) (fun _ _ _ h => h) (by assumption) (Or.inl ⟨by rfl, ?_⟩) ?_
      rotate_left
      · intro w hSw; go_simp; (try with_reducible rfl)
      simp only [List.set_cons_zero, List.set_cons_succ]
      refine wpAnyH_done (by kernel_rfl) ?_ _
      go_wp2_with fail
      go_ret
      exact ⟨rfl, HF6.out.non (Fr.drew _)⟩
    · skip
      have htb := HTO.out.symm.trans hg
      have her := (out_bad (enc := enc) hg).2
      rw [her]
      have hz1 : ¬ (z : Int) = 0 := by omega
      have hz2 : ((z : Int) != 0) = true := bne_iff_ne.2 hz1
      have hSb : (fun w' : World => Row w' (.slice (some ⟨X, 0, none⟩) 16 16) (bs T) ∧ Row w' x2 (bs B2) ∧ w'.cell? ⟨P + 1, 1, none⟩ = some (.int .u16 y)) z6.drew := ⟨HT6.out.non (Fr.drew _), HX6.out.non (Fr.drew _), (Fr.drew z6).cell HA6.out (fun h => h)⟩
      go_upto_region 8 with (fail)
      refine wp_region_held_drew (S := fun w' => Row w' (.slice (some ⟨X, 0, none⟩) 16 16) (bs T) ∧ Row w' x2 (bs B2) ∧ w'.cell? ⟨P + 1, 1, none⟩ = some (.int .u16 y)) (by kernel_rfl) hSb (fun hHeld => ?_)
      refine wpAnyH_takeL (i := 0) 63 (v := ?_) rfl rfl (by kernel_rfl) (by kernel_rfl) (by kernel_rfl) (fun _ _ _ h => h) (by assumption) (Or.inl ⟨by rfl, ?_⟩) ?_
      rotate_left
      · intro w hSw; go_simp; (try with_reducible rfl)
      simp only [List.set_cons_zero, List.set_cons_succ]
      refine wpAnyH_takeL (i := 1) 64 (v := ?_) rfl rfl (by kernel_rfl) (by kernel_rfl) (by kernel_rfl) (fun _ _ _ h => h) (by assumption) (Or.inl ⟨by rfl, ?_⟩) ?_
      rotate_left
      · intro w hSw; go_simp; (try with_reducible rfl)
      simp only [List.set_cons_zero, List.set_cons_succ]
      refine wpAnyH_takeL (i := 2) 65 (v := ?_) rfl rfl (by kernel_rfl) (by kernel_rfl) (by kernel_rfl) (fun _ _ _ h => h) (by assumption) (Or.inl ⟨by rfl, ?_⟩) ?_
      rotate_left
      · intro w hSw; go_simp; (try with_reducible rfl)
      simp only [List.set_cons_zero, List.set_cons_succ]
      refine wpAnyH_takeL (i := 3) 66 (v := ?_) rfl rfl (by kernel_rfl) (by kernel_rfl) (by kernel_rfl) (fun _ _ _ h => h) (by assumption) (Or.inl ⟨by rfl, ?_⟩) ?_
      rotate_left
      · intro w hSw; go_simp; (try with_reducible rfl)
      simp only [List.set_cons_zero, List.set_cons_succ]
      refine wpAnyH_takeL (i := 4) 67 (v := ?_) rfl rfl (by kernel_rfl) (by kernel_rfl) (by kernel_rfl) (fun _ _ _ h => h) (by assumption) (Or.inl ⟨by rfl, ?_⟩) ?_
      rotate_left
      · intro w hSw; go_simp; (try with_reducible rfl)
      simp only [List.set_cons_zero, List.set_cons_succ]
      refine wpAnyH_takeL (i := 5) 68 (v := .string ⟨T.toArray⟩) rfl rfl (by kernel_rfl) (by kernel_rfl) (by kernel_rfl) (fun _ _ _ h => h) (by assumption) (Or.inl ⟨by rfl, ?_⟩) ?_
      · intro w hSw; have hx := run_str (P := Tryd.prog) w 27 9 5 _ _ hSw.1 Tryd.underlying27 Tryd.underlying5 Tryd.underlying9; go_simp
      simp only [List.set_cons_zero, List.set_cons_succ]
      refine wpAnyH_takeL (i := 6) 69 (v := ?_) rfl rfl (by kernel_rfl) (by kernel_rfl) (by kernel_rfl) (fun _ _ _ h => h) (by assumption) (Or.inl ⟨by rfl, ?_⟩) ?_
      rotate_left
      · intro w hSw; go_simp; (try with_reducible rfl)
      simp only [List.set_cons_zero, List.set_cons_succ]
      refine wpAnyH_takeL (i := 7) 70 (v := ?_) rfl rfl (by kernel_rfl) (by kernel_rfl) (by kernel_rfl) (fun _ _ _ h => h) (by assumption) (Or.inl ⟨by rfl, ?_⟩) ?_
      rotate_left
      · intro w hSw; go_simp; (try with_reducible rfl)
      simp only [List.set_cons_zero, List.set_cons_succ]
      refine wpAnyH_takeL (i := 8) 71 (v := ?_) rfl rfl (by kernel_rfl) (by kernel_rfl) (by kernel_rfl) (fun _ _ _ h => h) (by assumption) (Or.inl ⟨by rfl, ?_⟩) ?_
      rotate_left
      · intro w hSw; go_simp; (try with_reducible rfl)
      simp only [List.set_cons_zero, List.set_cons_succ]
      refine wpAnyH_takeL (i := 9) 72 (v := ?_) rfl rfl (by kernel_rfl) (by kernel_rfl) (by kernel_rfl) (fun _ _ _ h => h) (by assumption) (Or.inl ⟨by rfl, ?_⟩) ?_
      rotate_left
      · intro w hSw; go_simp; (try with_reducible rfl)
      simp only [List.set_cons_zero, List.set_cons_succ]
      refine wpAnyH_takeL (i := 10) 73 (v := .string ⟨B2.toArray⟩) rfl rfl (by kernel_rfl) (by kernel_rfl) (by kernel_rfl) (fun _ _ _ h => h) (by assumption) (Or.inl ⟨by rfl, ?_⟩) ?_
      · intro w hSw; have hx := run_str (P := Tryd.prog) w 27 9 5 _ _ hSw.2.1 Tryd.underlying27 Tryd.underlying5 Tryd.underlying9; go_simp
      simp only [List.set_cons_zero, List.set_cons_succ]
      refine wpAnyH_takeL (i := 11) 74 (v := ?_) rfl rfl (by kernel_rfl) (by kernel_rfl) (by kernel_rfl) (fun _ _ _ h => h) (by assumption) (Or.inl ⟨by rfl, ?_⟩) ?_
      rotate_left
      · intro w hSw; go_simp; (try with_reducible rfl)
      simp only [List.set_cons_zero, List.set_cons_succ]
      refine wpAnyH_takeL (i := 12) 75 (v := ?_) rfl rfl (by kernel_rfl) (by kernel_rfl) (by kernel_rfl) (fun _ _ _ h => h) (by assumption) (Or.inl ⟨by rfl, ?_⟩) ?_
      rotate_left
      · intro w hSw; go_simp; (try with_reducible rfl)
      simp only [List.set_cons_zero, List.set_cons_succ]
      refine wpAnyH_takeL (i := 13) 76 (v := ?_) rfl rfl (by kernel_rfl) (by kernel_rfl) (by kernel_rfl) (fun _ _ _ h => h) (by assumption) (Or.inl ⟨by rfl, ?_⟩) ?_
      rotate_left
      · intro w hSw; go_simp; (try with_reducible rfl)
      simp only [List.set_cons_zero, List.set_cons_succ]
      refine wpAnyH_takeL (i := 14) 77 (v := ?_) rfl rfl (by kernel_rfl) (by kernel_rfl) (by kernel_rfl) (fun _ _ _ h => h) (by assumption) (Or.inl ⟨by rfl, ?_⟩) ?_
      rotate_left
      · intro w hSw; go_simp; (try with_reducible rfl)
      simp only [List.set_cons_zero, List.set_cons_succ]
      refine wpAnyH_takeL (i := 15) 78 (v := ?_) rfl rfl (by kernel_rfl) (by kernel_rfl) (by kernel_rfl) (fun _ _ _ h => h) (by assumption) (Or.inl ⟨by rfl, ?_⟩) ?_
      rotate_left
      · intro w hSw; go_simp; (try with_reducible rfl)
      simp only [List.set_cons_zero, List.set_cons_succ]
      refine wpAnyH_takeL (i := 16) 79 (v := ?_) rfl rfl (by kernel_rfl) (by kernel_rfl) (by kernel_rfl) (fun _ _ _ h => h) (by assumption) (Or.inl ⟨by rfl, ?_⟩) ?_
      rotate_left
      · intro w hSw; go_simp; (try with_reducible rfl)
      simp only [List.set_cons_zero, List.set_cons_succ]
      refine wpAnyH_takeL (i := 17) 80 (v := ?_) rfl rfl (by kernel_rfl) (by kernel_rfl) (by kernel_rfl) (fun _ _ _ h => h) (by assumption) (Or.inl ⟨by rfl, ?_⟩) ?_
      rotate_left
      · intro w hSw; go_simp; (try with_reducible rfl)
      simp only [List.set_cons_zero, List.set_cons_succ]
      refine wpAnyH_takeL (i := 18) 81 (v := ?_) rfl rfl (by kernel_rfl) (by kernel_rfl) (by kernel_rfl) (fun _ _ _ h => h) (by assumption) (Or.inl ⟨by rfl, ?_⟩) ?_
      rotate_left
      · intro w hSw; go_simp; (try with_reducible rfl)
      simp only [List.set_cons_zero, List.set_cons_succ]
      refine wpAnyH_takeL (i := 19) 82 (v := ?_) rfl rfl (by kernel_rfl) (by kernel_rfl) (by kernel_rfl) (fun _ _ _ h => h) (by assumption) (Or.inl ⟨by rfl, ?_⟩) ?_
      rotate_left
      · intro w hSw; go_simp; (try with_reducible rfl)
      simp only [List.set_cons_zero, List.set_cons_succ]
      refine wpAnyH_takeL (i := 20) 83 (v := undef) rfl rfl (by kernel_rfl) (by kernel_rfl) (by kernel_rfl) (fun _ _ _ h => h) (by assumption) (Or.inr ⟨by rfl, rfl⟩) ?_
      simp only [List.set_cons_zero, List.set_cons_succ]
      refine wpAnyH_takeL (i := 21) 84 (v := undef) rfl rfl (by kernel_rfl) (by kernel_rfl) (by kernel_rfl) (fun _ _ _ h => h) (by assumption) (Or.inr ⟨by rfl, rfl⟩) ?_
      simp only [List.set_cons_zero, List.set_cons_succ]
      refine wpAnyH_takeL (i := 22) 85 (v := ?_) rfl rfl (by kernel_rfl) (by kernel_rfl) (by kernel_rfl) (fun _ _ _ h => h) (by assumption) (Or.inl ⟨by rfl, ?_⟩) ?_
      rotate_left
      · intro w hSw; go_simp; (try with_reducible rfl)
      simp only [List.set_cons_zero, List.set_cons_succ]
      refine wpAnyH_takeL (i := 23) 86 (v := ?_) rfl rfl (by kernel_rfl) (by kernel_rfl) (by kernel_rfl) (fun _ _ _ h => h) (by assumption) (Or.inl ⟨by rfl, ?_⟩) ?_
      rotate_left
      · intro w hSw; go_simp; (try with_reducible rfl)
      simp only [List.set_cons_zero, List.set_cons_succ]
      refine wpAnyH_takeL (i := 24) 6 (v := ?_) rfl rfl (by kernel_rfl) (by kernel_rfl) (by kernel_rfl) (fun _ _ _ h => h) (by assumption) (Or.inl ⟨by rfl, ?_⟩) ?_
      rotate_left
      · intro w hSw; go_simp; (try with_reducible rfl)
      simp only [List.set_cons_zero, List.set_cons_succ]
      refine wpAnyH_done (by kernel_rfl) ?_ _
      go_wp2_with fail
      go_ret
      exact ⟨rfl, HF6.out.non (Fr.drew _)⟩
end Go.Proofs.YthfpkdbhihcniaaDoor
