/- layer 6: what is opened -/
import Derived.Test.YthfpkdbhihcniaaDoorLaw06A

namespace Go.Proofs.YthfpkdbhihcniaaDoor
open Go.ChangeShapes Go.WideShapes Go.ChangeAt Go.RowKit

/-- what a text is sealed with, in memory: key, nonce, ad -/
def withCells (enc mac nonce : List UInt8) (va : Value) : List Value := bs enc ++ bs mac ++ bs nonce ++ [va]
def WithAt (w : World) (P : Nat) (enc mac nonce : List UInt8) (va : Value) : Prop := w.rangeAt P 0 (keyCells enc mac) ∧ w.rangeAt P 64 (bs nonce) ∧ w.cell? ⟨P, 76, none⟩ = some va
theorem with_at {enc mac nonce : List UInt8} {va : Value} (he : enc.length = 32) (hm : mac.length = 32) (hn : nonce.length = 12) : ∀ (w : World) (P t : Nat), Blk w P t (withCells enc mac nonce va) → WithAt w P enc mac nonce va := fun w P t h => by
  have h1 : (bs enc).length = 32 := by rw [bs_length, he]
  have h2 : (bs mac).length = 32 := by rw [bs_length, hm]
  have h3 : (bs nonce).length = 12 := by rw [bs_length, hn]
  unfold withCells at h
  refine ⟨h.range 0 _ (fun j v hj => ?_), h.range 64 _ (fun j v hj => ?_), (h.at 76 _ ?_).1⟩
  · have hl := (List.getElem?_eq_some_iff.1 hj).1
    unfold keyCells at hj hl
    rw [Nat.zero_add, List.append_assoc, List.getElem?_append_left hl]
    exact hj
  · have hl := (List.getElem?_eq_some_iff.1 hj).1
    rw [List.append_assoc, List.getElem?_append_right (by simp; omega), List.getElem?_append_left (by simp; omega)]
    simp only [List.length_append, h1, h2, Nat.add_sub_cancel_left]
    exact hj
  · rw [List.getElem?_append_right (by simp; omega)]
    simp [h1, h2, h3]
theorem WithAt.non {w w' : World} {P : Nat} {enc mac nonce : List UInt8} {va : Value} (h : WithAt w P enc mac nonce va) (f : Fr Non w w') : WithAt w' P enc mac nonce va := ⟨rng_fr h.1 f, rng_fr h.2.1 f, f.cell h.2.2 (fun h => h)⟩
theorem kat6_of {W : World} {g : Nat} (h : ∀ (i : Nat) (z : Int), (shaK.map fun n : Nat => (n : Int))[i]? = some z → W.cell? ⟨g, i, none⟩ = some (.int .u32 z)) : KAt W g := by
  intro i hi
  refine h i _ ?_
  rw [List.getElem?_map, List.getElem?_eq_getElem (by rw [shaK_length]; exact hi), getElem!_pos shaK i (by rw [shaK_length]; exact hi)]
  rfl
theorem stat6_of {W : World} {g : Nat} (h : ∀ (i : Nat) (z : Int), (shaInit.list.map fun n : Nat => (n : Int))[i]? = some z → W.cell? ⟨g, i, none⟩ = some (.int .u32 z)) : StAt W g := by
  intro i hi
  have hl : i < shaInit.list.length := hi
  refine h i _ ?_
  rw [List.getElem?_map, List.getElem?_eq_getElem hl, getElem!_pos shaInit.list i hl]
  rfl
theorem start6_of {W : World} {g : Nat} (h : ∀ (i : Nat) (z : Int), (streamStart.map fun n : Nat => (n : Int))[i]? = some z → W.cell? ⟨g, i, none⟩ = some (.int .u32 z)) : StartAt W g := by
  intro i hi
  have hl : i < streamStart.length := hi
  refine h i _ ?_
  rw [List.getElem?_map, List.getElem?_eq_getElem hl, getElem!_pos streamStart i hl]
  rfl
theorem seal_laid4 {W : World} (h : laidMetH Tryd.prog Rows.sealSealsRow.laid W) : SealT W ∧ KAt W 3 := by
  obtain ⟨ps, h, -⟩ := h
  obtain ⟨⟨q1, h1⟩, f1⟩ := laid_cons h
  obtain ⟨⟨q2, h2⟩, f2⟩ := laid_cons h1
  obtain ⟨⟨q3, h3⟩, f3⟩ := laid_cons h2
  obtain ⟨-, f4⟩ := laid_cons h3
  refine ⟨⟨⟨kat6_of ?_, stat6_of ?_⟩, start6_of ?_⟩, kat6_of ?_⟩
  · exact f2 (t := 82) (n := 64) (zs := shaK.map fun n : Nat => (n : Int)) rfl (by kernel_rfl) (by kernel_rfl) (by kernel_rfl) Tryd.underlying43 (by kernel_rfl)
  · exact f1 (t := 68) (n := 8) (zs := shaInit.list.map fun n : Nat => (n : Int)) rfl (by kernel_rfl) (by kernel_rfl) (by kernel_rfl) Tryd.underlying43 (by kernel_rfl)
  · exact f3 (t := 77) (n := 4) (zs := streamStart.map fun n : Nat => (n : Int)) rfl (by kernel_rfl) (by kernel_rfl) (by kernel_rfl) Tryd.underlying43 (by kernel_rfl)
  · exact f4 (t := 82) (n := 64) (zs := shaK.map fun n : Nat => (n : Int)) rfl (by kernel_rfl) (by kernel_rfl) (by kernel_rfl) Tryd.underlying43 (by kernel_rfl)
theorem seal_laid3 {W : World} (h : laidMetH Tryd.prog Rows.sealBackRow.laid W) : SealT W := by
  obtain ⟨ps, h, -⟩ := h
  obtain ⟨⟨q1, h1⟩, f1⟩ := laid_cons h
  obtain ⟨⟨q2, h2⟩, f2⟩ := laid_cons h1
  obtain ⟨-, f3⟩ := laid_cons h2
  refine ⟨⟨kat6_of ?_, stat6_of ?_⟩, start6_of ?_⟩
  · exact f2 (t := 82) (n := 64) (zs := shaK.map fun n : Nat => (n : Int)) rfl (by kernel_rfl) (by kernel_rfl) (by kernel_rfl) Tryd.underlying43 (by kernel_rfl)
  · exact f1 (t := 68) (n := 8) (zs := shaInit.list.map fun n : Nat => (n : Int)) rfl (by kernel_rfl) (by kernel_rfl) (by kernel_rfl) Tryd.underlying43 (by kernel_rfl)
  · exact f3 (t := 77) (n := 4) (zs := streamStart.map fun n : Nat => (n : Int)) rfl (by kernel_rfl) (by kernel_rfl) (by kernel_rfl) Tryd.underlying43 (by kernel_rfl)

set_option maxRecDepth 100000 in
set_option maxHeartbeats 4000000 in
/-- P6.3 -/
theorem opens6_any (W : World) (enc mac nonce ad : List UInt8) (va : Value) (v : Value) (b : List UInt8) (hL : laidMetH Tryd.prog Rows.sealOpensRow.laid W) (he : enc.length = 32) (hmc : mac.length = 32) (hn : nonce.length = 12) (hva : Row W va (bs ad)) (hal : ad.length ≤ 1048576) (hv : Row W v (bs b)) (hbl : b.length ≤ 1048576) :
    Calls Tryd.prog 4 #[.agg (withCells enc mac nonce va).toArray, v] W fun e W' => e = .returned (.bool true) ∧ Fr Non W W' := by
  have HT := Lib.hid (seal_laid4 hL)
  have HV := Lib.hid hv
  clear hL hv
  have HL := Lib.hid (And.intro he (And.intro hmc hn))
  have HVA := Lib.hid hva
  have hik : (Tryd.prog.info? 24).map (·.size) = some (keyCells enc mac).length := by unfold keyCells; rw [List.length_append, bs_length, bs_length, he, hmc]; kernel_rfl
  have hin : (Tryd.prog.info? 26).map (·.size) = some (bs nonce).length := by rw [bs_length, hn]; kernel_rfl
  have HWC := Lib.hid (with_at (va := va) he hmc hn)
  clear he hmc hn hva
  have huk := Tryd.underlying24
  have hun := Tryd.underlying26
  go_enter Tryd.func4, Tryd.ntmps4
  go_upto_region 1 with (fail)
  have hb1 := Blk.new W 29 (withCells enc mac nonce va)
  have hf1 := Fr.alloc W (.cells (withCells enc mac nonce va).toArray 29)
  have hs1 : (W.alloc (.cells (withCells enc mac nonce va).toArray 29)).heap.size = W.heap.size + 1 := by simp
  obtain ⟨P, hP⟩ : ∃ P, P = W.heap.size := ⟨_, rfl⟩
  rw [← hP] at hb1 hs1 ⊢
  generalize W.alloc (.cells (withCells enc mac nonce va).toArray 29) = w1 at hb1 hf1 hs1 ⊢
  have HP := Lib.hid (HWC.out _ _ _ hb1)
  have HF1 := Lib.hid hf1
  clear hb1 hs1 hf1 hP
  go_wp2_with fail
  refine (shown6_any _ (HT.out.1.non HF1.out)).mono ?_
  rintro e w2 ⟨rfl, hf2⟩
  have HF2 := Lib.hid (HF1.out.non hf2)
  have HP2 := Lib.hid (HP.out.non hf2)
  have hcn := HP2.out.2.2
  clear hf2
  go_upto_region 2 with (fail)
  go_wp2_with ((with_reducible show wpList _ _ _ (({ op := .load _ _, .. } : Oper) :: _) _ _); first | (refine wpList_load_mid rfl 24 _ rfl P 0 rfl (keyCells enc mac) _ HP2.out.1 huk rfl hik ?_) | (refine wpList_load_mid rfl 26 _ rfl P 64 rfl (bs nonce) _ HP2.out.2.1 hun rfl hin ?_))
  refine (openS_any enc mac nonce va v ad b w2 HL.out.1 HL.out.2.1 HL.out.2.2 (HVA.out.non HF2.out) (HV.out.non HF2.out) (by omega) (by omega) (HT.out.1.1.non HF2.out) (HT.out.1.2.non HF2.out)).mono ?_
  rintro e w3 ⟨v3, rfl, ho3, hf3⟩
  have HF3 := Lib.hid (HF2.out.non hf3)
  have HP3 := Lib.hid (HP2.out.non hf3)
  have HO3 := Lib.hid ho3
  clear hf3 ho3 hcn
  have hcn := HP3.out.2.2
  go_upto_region 3 with (fail)
  go_wp2_with ((with_reducible show wpList _ _ _ (({ op := .load _ _, .. } : Oper) :: _) _ _); first | (refine wpList_load_mid rfl 24 _ rfl P 0 rfl (keyCells enc mac) _ HP3.out.1 huk rfl hik ?_) | (refine wpList_load_mid rfl 26 _ rfl P 64 rfl (bs nonce) _ HP3.out.2.1 hun rfl hin ?_))
  refine (openR_any enc mac nonce va v ad b w3 HL.out.1 HL.out.2.1 HL.out.2.2 (HVA.out.non HF3.out) (HV.out.non HF3.out) (by omega) (HT.out.2.frame HF3.out (fun h => h))).mono ?_
  rintro e w4 ⟨v4, rfl, ho4, hf4⟩
  generalize sealOut enc mac nonce ad b = x at HO3 ho4
  generalize sealErr mac nonce ad b = er
  have HF4 := Lib.hid (HF3.out.non hf4)
  have hs1 := run_str (P := Tryd.prog) w4 27 9 5 _ _ (HO3.out.row.non hf4) Tryd.underlying27 Tryd.underlying5 Tryd.underlying9
  have hs2 := run_str (P := Tryd.prog) w4 27 9 5 _ _ ho4.row Tryd.underlying27 Tryd.underlying5 Tryd.underlying9
  clear hf4 ho4 hcn
  go_wp2_with fail
  go_ret
  exact ⟨rfl, HF4.out⟩
end Go.Proofs.YthfpkdbhihcniaaDoor
