/- layer 4: what a use's texts are sealed with -/
import Derived.Test.YtajknmapggkmnaaDoorLaw04C
namespace Go.Proofs.YtajknmapggkmnaaDoor
open Go.ChangeShapes Go.WideShapes Go.ChangeAt Go.RowKit

theorem part_bytes {P : Program} {t e : TypeId} {n : Nat} (ht : P.underlying t = some (.array n e)) (hs : (P.info? t).map (·.size) = some n) (l : List UInt8) (o : Nat) (w : World) :
    (part t (bs l).toArray o).run P w = .ok (.agg (bs ((l.drop o).take n)).toArray) w := by
  obtain ⟨it, h1, h2⟩ := Option.map_eq_some_iff.1 hs
  simp [part, isAgg, run_underlying ht, sizeOf, typeInfo, h1, h2]
  simp [bs, List.map_take, List.map_drop]
/-- keys are compared half by half -/
theorem eqKey {K : List UInt8} (hK : K.length = 64) : ∀ w : World, (binOp .eql 36 (.agg (bs K).toArray) (.agg (bs K).toArray)).run Tryd.prog w = .ok (.bool true) w := fun w => by
  have hp := fun (l : List UInt8) (o : Nat) (w : World) => part_bytes (P := Tryd.prog) Tryd.underlying24 (by kernel_rfl) l o w
  have he := fun (x y : List UInt8) (w : World) (hx : x.length = 32) (hy : y.length = 32) => run_equalIn_bytes (P := Tryd.prog) w 9997 24 5 32 Tryd.underlying24 Tryd.underlying5 size25 x y hx hy
  have h1 := he (K.take 32) (K.take 32) w (by simp; omega) (by simp; omega)
  have h2 := he ((K.drop 32).take 32) ((K.drop 32).take 32) w (by simp; omega) (by simp; omega)
  have e1 : (Op.equalIn 9999 24 (.agg (bs (K.take 32)).toArray) (.agg (bs (K.take 32)).toArray)).run Tryd.prog w = .ok true w := by have h := h1; rw [beq_self_eq_true] at h; exact h
  have e2 : (Op.equalIn 9999 24 (.agg (bs ((K.drop 32).take 32)).toArray) (.agg (bs ((K.drop 32).take 32)).toArray)).run Tryd.prog w = .ok true w := by have h := h2; rw [beq_self_eq_true] at h; exact h
  rw [run_eql_struct, run_equalIn_struct (w := w) 9999 36 _ _ (by kernel_rfl) (by kernel_rfl)]
  unfold Program.fieldsOf
  rw [Tryd.underlying36]
  simp [Op.eqFields, hp]
  rw [e1]
  simp [e2]

set_option maxRecDepth 100000 in
set_option maxHeartbeats 4000000 in
/-- P4.4 -/
theorem derives4_any (W : World) (root : List UInt8) (u : Value) (use : List UInt8) (hL : laidMetH Tryd.prog Rows.macDerivesRow.laid W) (hr : root.length = 32) (hu : Row W u (bs use)) (hul : use.length ≤ 140737488351232) :
    Calls Tryd.prog 6 #[.agg (bs root).toArray, u] W fun e W' => e = .returned (.bool true) ∧ Fr Non W W' := by
  have hT := shaT_3 hL
  have HU := Lib.hid hu
  have HR := Lib.hid hr
  have HT := Lib.hid hT.1
  have HK := Lib.hid hT.2
  have hdl := macDerive_length root use
  obtain ⟨D, hD⟩ : ∃ D, D = macDerive root use := ⟨_, rfl⟩
  rw [← hD] at hdl
  have HD := Lib.hid hD
  have heq := eqKey hdl
  have hiD : (Tryd.prog.info? 25).map (·.size) = some (bs root).length := by rw [bs_length, hr]; kernel_rfl
  have HID := Lib.hid hiD
  clear hL hT hu hr hiD hD hdl
  go_enter Tryd.func6, Tryd.ntmps6
  go_upto_region 1 with (fail)
  have hb2 := Blk.new W 25 (bs root)
  have hf2 := Fr.alloc W (.cells (bs root).toArray 25)
  obtain ⟨X, hX⟩ : ∃ X, X = W.heap.size := ⟨_, rfl⟩
  rw [← hX] at hb2 ⊢
  generalize W.alloc (.cells (bs root).toArray 25) = w2 at hb2 hf2 ⊢
  have HB := Lib.hid hb2
  have HF2 := Lib.hid hf2
  have hS0 : (fun w' : World => w'.rangeAt X 0 (bs root)) w2.drew := hb2.range 0 _ (fun j v hj => by simpa using hj)
  have huD := Tryd.underlying25
  clear hb2 hf2 hX
  refine wp_region_held_drew (S := fun w' => w'.rangeAt X 0 (bs root)) (by kernel_rfl) hS0 (fun hHeld => ?_)
  refine wpAnyH_ready (rs := [0]) (by kernel_rfl) (by simp) ?_
  refine AllReadyH.cons (o := ⟨some 5, _, _, _, _, _⟩) rfl (fun K hK => ?_) (AllReadyH.nil)
  go_simp
  go_wp2_with (go_at_call 11; refine (shown4_any _ (HT.out.non (HF2.out.non (Fr.drew _)))).mono ?_; rintro e r2 ⟨rfl, hf2⟩)
  have F2 : Hid (Fr Non w2.drew r2) := Lib.hid hf2
  clear hf2
  refine hK.out _ _ ((HB.out.non ((Fr.drew _).non F2.out)).range 0 _ (fun j v hj => by simpa using hj)) (fun hHeld => ?_)
  clear hK K
  refine wpAnyH_takeL (i := 1) 6 (v := ?_) rfl rfl (by kernel_rfl) (by kernel_rfl) (by kernel_rfl) (fun _ _ _ h => h) (by assumption) (Or.inl ⟨by rfl, ?_⟩) ?_
  rotate_left
  · intro w hSw; go_simp; (try with_reducible rfl)
  simp only [List.set_cons_zero, List.set_cons_succ]
  refine wpAnyH_takeL (i := 2) 7 (v := .agg (bs root).toArray) rfl rfl (by kernel_rfl) (by kernel_rfl) (by kernel_rfl) (fun _ _ _ h => h) (by assumption) (yieldsIf_load_mid (by rfl) _ _ rfl X (0) rfl (bs root) _ (fun w h => h) huD rfl HID.out) ?_
  simp only [List.set_cons_zero, List.set_cons_succ]
  refine wpAnyH_takeL (i := 3) 8 (v := ?_) rfl rfl (by kernel_rfl) (by kernel_rfl) (by kernel_rfl) (fun _ _ _ h => h) (by assumption) (Or.inl ⟨by rfl, ?_⟩) ?_
  rotate_left
  · intro w hSw; go_simp; (try with_reducible rfl)
  simp only [List.set_cons_zero, List.set_cons_succ]
  refine wpAnyH_takeL (i := 5) 10 (v := .agg (bs root).toArray) rfl rfl (by kernel_rfl) (by kernel_rfl) (by kernel_rfl) (fun _ _ _ h => h) (by assumption) (yieldsIf_load_mid (by rfl) _ _ rfl X (0) rfl (bs root) _ (fun w h => h) huD rfl HID.out) ?_
  simp only [List.set_cons_zero, List.set_cons_succ]
  refine wpAnyH_takeL (i := 6) 11 (v := ?_) rfl rfl (by kernel_rfl) (by kernel_rfl) (by kernel_rfl) (fun _ _ _ h => h) (by assumption) (Or.inl ⟨by rfl, ?_⟩) ?_
  rotate_left
  · intro w hSw; go_simp; (try with_reducible rfl)
  simp only [List.set_cons_zero, List.set_cons_succ]
  refine wpAnyH_ready (rs := [4]) (by kernel_rfl) (by simp) ?_
  refine AllReadyH.cons (o := ⟨some 9, _, _, _, _, _⟩) rfl (fun K hK => ?_) (AllReadyH.nil)
  go_simp
  go_wp2_with (go_at_call 18; refine (deriveOp_any u root use _ HR.out (HU.out.non (HF2.out.non ((Fr.drew _).non F2.out))) hul (HT.out.non (HF2.out.non ((Fr.drew _).non F2.out)))).mono ?_; rintro e r3 ⟨rfl, hf3⟩)
  rw [← HD.out]
  have F3 : Hid (Fr Non r2 r3) := Lib.hid hf3
  clear hf3
  refine hK.out _ _ ((HB.out.non ((Fr.drew _).non (F2.out.non F3.out))).range 0 _ (fun j v hj => by simpa using hj)) (fun hHeld => ?_)
  clear hK K
  refine wpAnyH_ready (rs := [7]) (by kernel_rfl) (by simp) ?_
  refine AllReadyH.cons (o := ⟨some 12, _, _, _, _, _⟩) rfl (fun K hK => ?_) (AllReadyH.nil)
  go_simp
  go_wp2_with (go_at_call 19; refine (deriveRef_any u root use _ HR.out (HU.out.non (HF2.out.non ((Fr.drew _).non (F2.out.non F3.out)))) (by omega) (HK.out.frame (HF2.out.non ((Fr.drew _).non (F2.out.non F3.out))) (fun h => h))).mono ?_; rintro e r4 ⟨rfl, hf4⟩)
  rw [← HD.out]
  have F4 : Hid (Fr Non r3 r4) := Lib.hid hf4
  clear hf4
  refine hK.out _ _ ((HB.out.non ((Fr.drew _).non (F2.out.non (F3.out.non F4.out)))).range 0 _ (fun j v hj => by simpa using hj)) (fun hHeld => ?_)
  clear hK K
  refine wpAnyH_takeL (i := 8) 13 (v := ?_) rfl rfl (by kernel_rfl) (by kernel_rfl) (by kernel_rfl) (fun _ _ _ h => h) (by assumption) (Or.inl ⟨by rfl, ?_⟩) ?_
  rotate_left
  · intro w hSw; go_simp; (try with_reducible rfl)
  simp only [List.set_cons_zero, List.set_cons_succ]
  refine wpAnyH_takeL (i := 9) 14 (v := ?_) rfl rfl (by kernel_rfl) (by kernel_rfl) (by kernel_rfl) (fun _ _ _ h => h) (by assumption) (Or.inl ⟨by rfl, ?_⟩) ?_
  rotate_left
  · intro w hSw; go_simp; (try with_reducible rfl)
  simp only [List.set_cons_zero, List.set_cons_succ]
  refine wpAnyH_takeL (i := 10) 4 (v := ?_) rfl rfl (by kernel_rfl) (by kernel_rfl) (by kernel_rfl) (fun _ _ _ h => h) (by assumption) (Or.inl ⟨by rfl, ?_⟩) ?_
  rotate_left
  · intro w hSw; go_simp; (try with_reducible rfl)
  simp only [List.set_cons_zero, List.set_cons_succ]
  refine wpAnyH_done (by kernel_rfl) ?_ _
  go_wp2_with fail
  go_ret
  exact ⟨rfl, HF2.out.non ((Fr.drew _).non (F2.out.non (F3.out.non F4.out)))⟩
end Go.Proofs.YtajknmapggkmnaaDoor
