/- package mac: Derive -/
import Derived.Test.YtpmkcjgndljhgaaDoorMacOpD
import Derived.Test.YtpmkcjgndljhgaaDoorParts
import Derived.Lib.SlBytesConst
import Derived.Laws.Cover3

namespace Go.Proofs.YtpmkcjgndljhgaaDoor
open Go.ChangeShapes Go.WideShapes Go.ChangeAt Go.RowKit

theorem key_built (X Y : List UInt8) (hX : X.length = 32) (hY : Y.length = 32) : Tryd.prog.built 44 [(0, .agg (bs X).toArray), (1, .agg (bs Y).toArray)] = some (bs (X ++ Y)).toArray := by
  have h : (Tryd.prog.info? 44).map (·.zero) = some (some (.agg (bs zero64).toArray)) := by kernel_rfl
  obtain ⟨it, h1, h2⟩ := Option.map_eq_some_iff.1 h
  rw [bs_append]
  exact built_two h1 h2 Tryd.underlying44 (by kernel_rfl) (bs X) (bs Y) (by rw [bs_length, hX]) (by rw [bs_length, hY]) (by rw [bs_length, zero64_length])
theorem run_subK {P : Program} (t e : TypeId) (ht : P.underlying t = some (.slice e)) (hsz : (P.info? e).map (·.size) = some 1) (b o n c : Nat) (h : 64 ≤ c) :
    (∀ w, (Instr.slice t (.slice (some ⟨b, o, none⟩) n c) none (some (.int .i64 32)) none).run P w = .ok (.slice (some ⟨b, o, none⟩) 32 c) w) ∧
    (32 < c → 32 ≤ n → ∀ w, (Instr.slice t (.slice (some ⟨b, o, none⟩) n c) (some (.int .i64 32)) none none).run P w = .ok (.slice (some ⟨b, o + 32, none⟩) (n - 32) (c - 32)) w) := by
  have he : P.elem t = e := by unfold Program.elem; rw [ht]
  constructor
  · intro w
    rw [run_slice_h w t (some ⟨b, o, none⟩) n c (by rw [he]; exact ht) .i64 32 (by omega) (by omega), he, run_size1 w hsz]
    simp only [Result.andThen, sliced]
    rw [if_neg (by omega)]
    simp [Addr.add_lit]
  · intro h1 h2 w
    rw [run_slice_l w t (some ⟨b, o, none⟩) n c (by rw [he]; exact ht) .i64 32 (by omega) (by omega), he, run_size1 w hsz]
    simp only [Result.andThen, sliced]
    rw [if_neg (by simp; omega)]
    simp [Addr.add_lit]
theorem halves {w : World} {b o n c : Nat} {E : List UInt8} (h : Row w (.slice (some ⟨b, o, none⟩) n c) (bs E)) (hE : E.length = 64) : w.rangeAt b o (bs (E.take 32)) ∧ w.rangeAt b (o + 32) (bs (E.drop 32)) := by
  obtain ⟨a', c', e, q1, q2, q3, q4⟩ := h
  obtain ⟨b', o', rfl, hc⟩ := q4 0 (by rw [bs_length]; omega)
  injection e with e1 _ _
  injection e1 with e1
  injection e1 with e2 e3
  subst e2 e3
  refine ⟨fun j v hj => hc j v ?_, fun j v hj => ?_⟩
  · simp only [bs, List.map_take] at hj ⊢
    rw [List.getElem?_take] at hj
    split at hj
    · exact hj
    · cases hj
  · rw [Nat.add_assoc]
    refine hc (32 + j) v ?_
    simp only [bs, List.map_drop] at hj ⊢
    rwa [List.getElem?_drop] at hj

set_option maxRecDepth 100000 in
set_option maxHeartbeats 1000000 in
theorem deriveOp_any (u : Value) (root use : List UInt8) (w : World) (hr : root.length = 32) (hu : Row w u (bs use)) (hul : use.length ≤ 140737488351232) (hT : ShaT w) :
    Calls Tryd.prog 34 #[.agg (bs root).toArray, u] w fun e w' => e = .returned (.agg (bs (macDerive root use)).toArray) ∧ Fr Non w w' := by
  have HR := Lib.hid hr
  have HU := Lib.hid hu
  have HT := Lib.hid hT
  have hzv : ∀ w, (zeroValue 42).run Tryd.prog w = .ok (.agg (bs zero32).toArray) w := fun _ => by kernel_rfl
  have HZV := Lib.hid hzv
  have hzk : ∀ w, (zeroValue 44).run Tryd.prog w = .ok (.agg (bs zero64).toArray) w := fun _ => by kernel_rfl
  have HZK := Lib.hid hzk
  have hif : (Tryd.prog.info? 42).map (·.size) = some 32 := by kernel_rfl
  have HIF := Lib.hid hif
  have hia : (Tryd.prog.info? 41).map (·.size) = some 32 := by kernel_rfl
  have HIA := Lib.hid hia
  have hik : (Tryd.prog.info? 44).map (·.size) = some 64 := by kernel_rfl
  have HIK := Lib.hid hik
  have kc := fun (w : World) (C : Array Value) (n c : Nat) => Lib.run_convert_bytes_const (P := Tryd.prog) w 33 5 C n c Tryd.underlying33 Tryd.underlying5
  clear hr hu hT hzv hzk hif hia hik
  go_enter Tryd.func34, Tryd.ntmps34
  go_wp2_with ((with_reducible show wpList _ _ _ (({ op := .alloc _, .. } : Oper) :: _) _ _); refine wpList_allocZ (o := ⟨some 4, _, _, _, _, none⟩) rfl 44 rfl _ HZK.out ?_)
  intro w2 hb2 hf2 hs2
  have hb1 := (Blk.new w 42 (bs root)).non hf2
  obtain ⟨B, hB⟩ : ∃ B, B = w.heap.size := ⟨_, rfl⟩
  obtain ⟨R, hR⟩ : ∃ R, R = w.heap.size + 1 := ⟨_, rfl⟩
  rw [← hB] at hb1
  rw [← hR] at hb2
  rw [← hR, ← hB]
  have HBR := Lib.hid (And.intro hB hR)
  have HB1 := Lib.hid hb1
  have HB2 := Lib.hid hb2
  have HF2 : Hid (Fr Non w w2) := Lib.hid ((Fr.alloc w _).non hf2)
  clear hb1 hb2 hf2 hs2 hB hR
  have HRB : Hid (Row w2 (.slice (some ⟨B, 0, none⟩) 32 32) (bs root)) := Lib.hid (by
    have h := HB1.out.row 0 32 (bs root) (by rw [bs_length, HR.out]; omega) (by unfold maxLen; omega) (fun j v hj => by rw [Nat.zero_add]; exact hj)
    rw [bs_length, HR.out] at h
    exact h)
  go_wp2_with fail
  clear kc
  have hrs : Row (w2.alloc (.cells (bs macSalt).toArray 5 (8, 9))) (.slice (some ⟨w2.heap.size, 0, none⟩) 8 8) (bs macSalt) := Row.builtM w2 (bs macSalt) 5 8 (8, 9) rfl rfl (by decide)
  have hf3 : Fr Non w2 (w2.alloc (.cells (bs macSalt).toArray 5 (8, 9))) := Fr.alloc _ _
  change Calls _ _ _ (w2.alloc (.cells (bs macSalt).toArray 5 (8, 9))) _
  generalize w2.alloc (.cells (bs macSalt).toArray 5 (8, 9)) = w3 at hrs hf3 ⊢
  have HF3 : Hid (Fr Non w w3) := Lib.hid (HF2.out.non hf3)
  have HB3 : Hid (Blk w3 R 44 (bs zero64)) := Lib.hid (HB2.out.non hf3)
  refine (extract_any _ _ macSalt root w3 hrs (by decide) (HRB.out.non hf3) (by rw [HR.out]; omega) (HT.out.non HF3.out)).mono ?_
  rintro e w4 ⟨rfl, hf4⟩
  have HF4 := Lib.hid (HF3.out.non hf4)
  have HB4 := Lib.hid (HB3.out.non hf4)
  have HXL : Hid ((macSum macSalt root).length = 32 ∧ macDerive root use = macExpand (macSum macSalt root) use 64) := Lib.hid ⟨macSum_length _ _, rfl⟩
  generalize macSum macSalt root = D at HXL
  clear hrs hf3 hf4 HF3 HB3 HRB HB1 HB2 HF2
  go_wp2_with ((with_reducible show wpList _ _ _ (({ op := .alloc _, .. } : Oper) :: _) _ _); refine wpList_var rfl rfl 42 5 (.tmp 11) rfl rfl rfl rfl _ (bs D) HZV.out (by rw [bs_length, bs_length, HXL.out.1]; rfl) (by rw [bs_length, HXL.out.1]; exact HIF.out) (bs_one _) (by simp) (fun _ => rfl) ?_)
  intro w5 hb5 hf5 hs5
  simp only [List.set_cons_succ, List.set_cons_zero]
  obtain ⟨X, hX⟩ : ∃ X, X = w4.heap.size := ⟨_, rfl⟩
  rw [← hX] at hb5 ⊢
  have HRD : Hid (Row w5 (.slice (some ⟨X, 0, none⟩) 32 32) (bs D)) := Lib.hid (by
    have h := hb5.row 0 32 (bs D) (by rw [bs_length, HXL.out.1]; omega) (by unfold maxLen; omega) (fun j v hj => by rw [Nat.zero_add]; exact hj)
    rw [bs_length, HXL.out.1] at h
    exact h)
  have HF5 := Lib.hid (HF4.out.non hf5)
  have HB5 := Lib.hid (HB4.out.non hf5)
  clear hb5 hf5 hs5 hX HF4 HB4
  go_wp2_with fail
  rw [show (64 : Int) = ((64 : Nat) : Int) from rfl]
  refine (expandOp_any _ u D use 64 w5 HRD.out (by rw [HXL.out.1]; omega) (HU.out.non HF5.out) hul (by omega) (HT.out.non HF5.out)).mono ?_
  rintro e w6 ⟨v6, rfl, ho6, hf6⟩
  rw [← HXL.out.2] at ho6
  have hdl := macDerive_length root use
  obtain ⟨E, hE⟩ : ∃ E, E = macDerive root use := ⟨_, rfl⟩
  rw [← hE] at ho6 hdl
  have hr6 := ho6.row
  have hlt6 := ho6.lt
  clear ho6
  have HE := Lib.hid (And.intro hE hdl)
  have HF6 := Lib.hid (HF5.out.non hf6)
  have HB6 := Lib.hid (HB5.out.non hf6)
  obtain ⟨a6, c6, rfl, q1, q2, _, h6⟩ := id hr6
  rw [bs_length, hdl] at h6 hr6 q1 ⊢
  obtain ⟨b6, off6, rfl, _⟩ := h6 0 (by omega)
  have hhv := halves hr6 hdl
  have hbb : b6 < w6.heap.size := hr6.blockLt (fun h => by rw [h] at hdl; simp at hdl)
  have hRb : ¬ b6 = R := by have h1 := (hlt6 b6 rfl).1; have h2 := HB5.out.lt; omega
  have HHV := Lib.hid (And.intro hhv (And.intro hbb hRb))
  have hm6 : c6 ≤ 9223372036854775807 := by unfold maxLen at q2; omega
  clear h6 hr6 hlt6 hRb hf6 HB5 HF5 HRD hdl hE hhv hbb q2
  have hs0 := run_subK (P := Tryd.prog) 33 5 Tryd.underlying33 (by kernel_rfl) b6 off6 64 c6 q1
  go_upto_region 3 with (fail)
  have hu := Tryd.underlying41
  have hc32 : ¬ c6 = 32 := by omega
  have ha1 := fun w => run_arrayAt (P := Tryd.prog) (w := w) 41 5 32 (some ⟨b6, off6, none⟩) 32 c6 hu (by omega)
  have ha2 := fun w => run_arrayAt (P := Tryd.prog) (w := w) 41 5 32 (some ⟨b6, off6 + 32, none⟩) 32 (c6 - 32) hu (by omega)
  have hl1 : (E.take 32).length = 32 := by rw [List.length_take, HE.out.2]; omega
  have hl2 : (E.drop 32).length = 32 := by rw [List.length_drop, HE.out.2]
  have hi1 : (Tryd.prog.info? 41).map (·.size) = some (bs (E.take 32)).length := by rw [bs_length, hl1]; exact HIA.out
  have hi2 : (Tryd.prog.info? 41).map (·.size) = some (bs (E.drop 32)).length := by rw [bs_length, hl2]; exact HIA.out
  have hS0 : (fun w' : World => w'.rangeAt b6 off6 (bs (E.take 32)) ∧ w'.rangeAt b6 (off6 + 32) (bs (E.drop 32))) w6.drew := HHV.out.1
  refine wp_region_held_drew (S := fun w' => w'.rangeAt b6 off6 (bs (E.take 32)) ∧ w'.rangeAt b6 (off6 + 32) (bs (E.drop 32))) (by kernel_rfl) hS0 (fun hHeld => ?_)
  refine wpAnyH_takeL (i := 0) 18 (v := ?_) rfl rfl (by kernel_rfl) (by kernel_rfl) (by kernel_rfl) (fun _ _ _ h => h) (by assumption) (Or.inl ⟨by rfl, ?_⟩) ?_
  rotate_left
  · intro w hSw; go_simp; with_reducible rfl
  simp only [List.set_cons_zero, List.set_cons_succ]
  refine wpAnyH_takeL (i := 1) 19 (v := ?_) rfl rfl (by kernel_rfl) (by kernel_rfl) (by kernel_rfl) (fun _ _ _ h => h) (by assumption) (Or.inl ⟨by rfl, ?_⟩) ?_
  rotate_left
  · intro w hSw; go_simp; with_reducible rfl
  simp only [List.set_cons_zero, List.set_cons_succ]
  refine wpAnyH_takeL (i := 2) 20 (v := ?_) rfl rfl (by kernel_rfl) (by kernel_rfl) (by kernel_rfl) (fun _ _ _ h => h) (by assumption) (Or.inl ⟨by rfl, ?_⟩) ?_
  rotate_left
  · intro w hSw; go_simp; with_reducible rfl
  simp only [List.set_cons_zero, List.set_cons_succ]
  refine wpAnyH_takeL (i := 3) 21 (v := .agg (bs (E.take 32)).toArray) rfl rfl (by kernel_rfl) (by kernel_rfl) (by kernel_rfl) (fun _ _ _ h => h) (by assumption) (yieldsIf_load_mid (by rfl) _ _ rfl b6 (off6) rfl (bs (E.take 32)) _ (fun w h => h.1) hu rfl hi1) ?_
  simp only [List.set_cons_zero, List.set_cons_succ]
  refine wpAnyH_takeL (i := 4) 22 (v := ?_) rfl rfl (by kernel_rfl) (by kernel_rfl) (by kernel_rfl) (fun _ _ _ h => h) (by assumption) (Or.inl ⟨by rfl, ?_⟩) ?_
  rotate_left
  · intro w hSw; go_simp; with_reducible rfl
  simp only [List.set_cons_zero, List.set_cons_succ]
  refine wpAnyH_takeL (i := 5) 23 (v := ?_) rfl rfl (by kernel_rfl) (by kernel_rfl) (by kernel_rfl) (fun _ _ _ h => h) (by assumption) (Or.inl ⟨by rfl, ?_⟩) ?_
  rotate_left
  · intro w hSw; go_simp; with_reducible rfl
  simp only [List.set_cons_zero, List.set_cons_succ]
  refine wpAnyH_takeL (i := 6) 24 (v := ?_) rfl rfl (by kernel_rfl) (by kernel_rfl) (by kernel_rfl) (fun _ _ _ h => h) (by assumption) (Or.inl ⟨by rfl, ?_⟩) ?_
  rotate_left
  · intro w hSw; go_simp; with_reducible rfl
  simp only [List.set_cons_zero, List.set_cons_succ]
  refine wpAnyH_takeL (i := 7) 25 (v := .agg (bs (E.drop 32)).toArray) rfl rfl (by kernel_rfl) (by kernel_rfl) (by kernel_rfl) (fun _ _ _ h => h) (by assumption) (yieldsIf_load_mid (by rfl) _ _ rfl b6 (off6 + 32) rfl (bs (E.drop 32)) _ (fun w h => h.2) hu rfl hi2) ?_
  simp only [List.set_cons_zero, List.set_cons_succ]
  have hkb := key_built (E.take 32) (E.drop 32) hl1 hl2
  rw [List.take_append_drop] at hkb
  refine wpAnyH_takeL (i := 8) 26 (v := .agg (bs E).toArray) rfl rfl (by kernel_rfl) (by kernel_rfl) (by kernel_rfl) (fun _ _ _ h => h) (by assumption) (Or.inl ⟨by rfl, fun w _ => exec_build 44 [(0, .tmp 21), (1, .tmp 25)] rfl [(0, .agg (bs (E.take 32)).toArray), (1, .agg (bs (E.drop 32)).toArray)] (bs E).toArray hkb rfl w⟩) ?_
  simp only [List.set_cons_zero, List.set_cons_succ]
  refine wpAnyH_ready (rs := [9]) (by kernel_rfl) (by simp) ?_
  refine AllReadyH.cons (o := ⟨none, .store 44 (.tmp 4) (.tmp 26), _, _, _, none⟩) rfl (fun K hK => ?_) AllReadyH.nil
  rw [if_pos (by rfl)]
  have hb64 : (bs E).length = 64 := by rw [bs_length, HE.out.2]
  have hR10 : Blk w6.drew R 44 (bs zero64) := HB6.out.non (Fr.drew _)
  have hth2 := hR10.there 0 (bs E).length (by rw [hb64, bs_length, zero64_length]; omega)
  have hth : w6.drew.there R 0 (bs E).toArray.size := by rw [List.size_toArray]; exact hth2
  have hinfo : (Tryd.prog.info? 44).map (·.size) = some (bs E).toArray.size := by rw [List.size_toArray, hb64]; exact HIK.out
  have hinfo2 : (Tryd.prog.info? 44).map (·.size) = some (bs E).length := by rw [hb64]; exact HIK.out
  have hrv := run_loadVar_mid (P := Tryd.prog) (w6.drew.setCells R 0 (bs E).toArray.toList) R 0 44 (bs E) _ (by have := World.rangeAt_setCells_same w6.drew R 0 (bs E) hth2; simpa using this) Tryd.underlying44 rfl hinfo2
  have hfs := Fr.setCells' R (bs E).toArray.toList w6.drew 0
  refine wp_store_mid 44 (.tmp 4) (.tmp 26) rfl R 0 (bs E).toArray rfl rfl hth hinfo (all_oneCell_toArray (bs_one E)) ?_
  obtain ⟨w11, hw11⟩ : ∃ w11, w11 = w6.drew.setCells R 0 (bs E).toArray.toList := ⟨_, rfl⟩
  rw [← hw11] at hrv hfs ⊢
  have HRV := Lib.hid (And.intro hrv hfs)
  have hS1 : (fun w' : World => w'.rangeAt b6 off6 (bs (E.take 32)) ∧ w'.rangeAt b6 (off6 + 32) (bs (E.drop 32))) w11 := ⟨HRV.out.2.range hS0.1 HHV.out.2.2, HRV.out.2.range hS0.2 HHV.out.2.2⟩
  clear hb64 hR10 hth hth2 hinfo hinfo2 hrv hfs hw11
  simp only [Act.put]
  refine hK.out _ _ hS1 (fun hHeld => ?_)
  clear hK K hS1 hS0
  refine wpAnyH_done (by kernel_rfl) ?_ _
  repeat (first | go_skip | go_step)
  refine bodyPost_ret (v := .agg (bs E).toArray) (by have h := HRV.out.1; simp [results, Tryd.results34, asAddr] at h ⊢; exact h) rfl ⟨by rw [HE.out.1], ?_⟩
  have hx := HBR.out
  exact (HF6.out.non (Fr.drew _)).new HRV.out.2 (fun i h => by have h1 : i = R := h; omega)
end Go.Proofs.YtpmkcjgndljhgaaDoor
