/- layer 5: blocks -/
import Derived.Test.YtcooibfnnjgjkaaDoorLaw05A
import Derived.Test.YtcooibfnnjgjkaaDoorStreamRefE
import Derived.Test.YtcooibfnnjgjkaaDoorHeld
import Derived.Stop.BytesEq
namespace Go.Proofs.YtcooibfnnjgjkaaDoor
open Go.ChangeShapes Go.WideShapes Go.ChangeAt Go.RowKit

def placeCells (key nonce : List UInt8) (count : Nat) : List Value := bs key ++ bs nonce ++ [Value.int .u32 (count : Int)]
/-- a place in memory: key, nonce, count -/
def Place (w : World) (P : Nat) (key nonce : List UInt8) (count : Nat) : Prop := w.rangeAt P 0 (bs key) ∧ w.rangeAt P 32 (bs nonce) ∧ w.cell? ⟨P, 44, none⟩ = some (.int .u32 (count : Int))
theorem place_at {w : World} {P t : Nat} {key nonce : List UInt8} {count : Nat} (h : Blk w P t (placeCells key nonce count)) (hk : (bs key).length = 32) (hn : (bs nonce).length = 12) : Place w P key nonce count := by
  unfold placeCells at h
  refine ⟨h.range 0 _ (fun j v hj => ?_), h.range 32 _ (fun j v hj => ?_), (h.at 44 _ ?_).1⟩
  · have hl := (List.getElem?_eq_some_iff.1 hj).1
    rw [Nat.zero_add, List.append_assoc, List.getElem?_append_left (by omega)]
    exact hj
  · have hl := (List.getElem?_eq_some_iff.1 hj).1
    rw [List.append_assoc, List.getElem?_append_right (by omega), List.getElem?_append_left (by omega), hk, Nat.add_sub_cancel_left]
    exact hj
  · rw [List.getElem?_append_right (by simp; omega)]
    simp [hk, hn]
theorem Place.frame {w w' : World} {P : Nat} {key nonce : List UInt8} {count : Nat} (h : Place w P key nonce count) {T : Nat → Prop} (f : Fr T w w') (hn : ¬ T P) : Place w' P key nonce count :=
  ⟨fun j v hj => f.cell (h.1 j v hj) hn, fun j v hj => f.cell (h.2.1 j v hj) hn, f.cell h.2.2 hn⟩
theorem Place.non {w w' : World} {P : Nat} {key nonce : List UInt8} {count : Nat} (h : Place w P key nonce count) (f : Fr Non w w') : Place w' P key nonce count := h.frame f (fun h => h)
theorem size8 : ∀ w, (sizeOf 5).run Tryd.prog w = .ok 1 w := fun w => run_size1 w (by kernel_rfl)
theorem eqBlock {D : List UInt8} (h : D.length = 64) (w : World) : (binOp .eql 28 (.agg (bs D).toArray) (.agg (bs D).toArray)).run Tryd.prog w = .ok (.bool true) w := by
  have h2 : (binOp .eql 28 (.agg (bs D).toArray) (.agg (bs D).toArray)).run Tryd.prog w = .ok (.bool (D == D)) w := run_eql_bytes (P := Tryd.prog) w 28 5 64 Tryd.underlying28 Tryd.underlying5 size8 D D h h
  rw [h2]; simp

set_option maxRecDepth 100000 in
set_option maxHeartbeats 4000000 in
/-- P5.1 -/
theorem blocks5_any (W : World) (key nonce : List UInt8) (count : Nat) (hL : laidMetH Tryd.prog Rows.streamBlocksRow.laid W) (hk : key.length = 32) (hn : nonce.length = 12) (hc : count < 4294967296) :
    Calls Tryd.prog 3 #[.agg (placeCells key nonce count).toArray] W fun e W' => e = .returned (.bool true) ∧ Fr Non W W' := by
  have HS := Lib.hid (start_5 hL)
  clear hL
  have hplen : (bs key).length = 32 := by rw [bs_length, hk]
  have hnlen : (bs nonce).length = 12 := by rw [bs_length, hn]
  have HK := Lib.hid (And.intro hk (And.intro hn hc))
  have hik : (Tryd.prog.info? 22).map (·.size) = some (bs key).length := by rw [hplen]; kernel_rfl
  have hin : (Tryd.prog.info? 23).map (·.size) = some (bs nonce).length := by rw [hnlen]; kernel_rfl
  have hdl := streamBlock_length key nonce count
  obtain ⟨D, hD⟩ : ∃ D, D = streamBlock key nonce count := ⟨_, rfl⟩
  rw [← hD] at hdl
  have heq := fun w => eqBlock hdl w
  have HD := Lib.hid hD
  clear hD hdl
  go_enter Tryd.func3, Tryd.ntmps3
  go_upto_region 1 with (fail)
  have hb1 := Blk.new W 26 (placeCells key nonce count)
  have hf1 := Fr.alloc W (.cells (placeCells key nonce count).toArray 26)
  obtain ⟨P, hP⟩ : ∃ P, P = W.heap.size := ⟨_, rfl⟩
  rw [← hP] at hb1 ⊢
  generalize W.alloc (.cells (placeCells key nonce count).toArray 26) = w2 at hb1 hf1 ⊢
  have HPB := Lib.hid (place_at hb1 hplen hnlen)
  have HF1 := Lib.hid hf1
  have HPE := Lib.hid hP
  clear hb1 hf1 hplen hnlen hk hn hc hP
  have hS0 : (fun w' : World => w'.rangeAt P 0 (bs key) ∧ w'.rangeAt P 32 (bs nonce) ∧ w'.cell? ⟨P, 44, none⟩ = some (.int .u32 (count : Int))) w2.drew := HPB.out.non (Fr.drew _)
  have huk := Tryd.underlying22
  have hun := Tryd.underlying23
  refine wp_region_held_drew (S := fun w' => w'.rangeAt P 0 (bs key) ∧ w'.rangeAt P 32 (bs nonce) ∧ w'.cell? ⟨P, 44, none⟩ = some (.int .u32 (count : Int))) (by kernel_rfl) hS0 (fun hHeld => ?_)
  refine wpAnyH_ready (rs := [0]) (by kernel_rfl) (by simp) ?_
  refine AllReadyH.cons (o := ⟨some 3, _, _, _, _, _⟩) rfl (fun K hK => ?_) (AllReadyH.nil)
  go_simp
  go_wp2_with (go_at_call 8; refine (shown5_any _ (HS.out.non (HF1.out.non (Fr.drew _)))).mono ?_; rintro e r2 ⟨rfl, hf2⟩)
  have F2 : Hid (Fr Non w2.drew r2) := Lib.hid hf2
  clear hf2
  refine hK.out _ _ (HPB.out.non ((Fr.drew _).non F2.out)) (fun hHeld => ?_)
  clear hK K
  refine wpAnyH_takeL (i := 1) 4 (v := ?_) rfl rfl (by kernel_rfl) (by kernel_rfl) (by kernel_rfl) (fun _ _ _ h => h) (by assumption) (Or.inl ⟨by rfl, ?_⟩) ?_
  rotate_left
  · intro w hSw; go_simp; (try with_reducible rfl)
  simp only [List.set_cons_zero, List.set_cons_succ]
  refine wpAnyH_takeL (i := 2) 5 (v := ?_) rfl rfl (by kernel_rfl) (by kernel_rfl) (by kernel_rfl) (fun _ _ _ h => h) (by assumption) (Or.inl ⟨by rfl, ?_⟩) ?_
  rotate_left
  · intro w hSw; go_simp; (try with_reducible rfl)
  simp only [List.set_cons_zero, List.set_cons_succ]
  refine wpAnyH_takeL (i := 3) 6 (v := .agg (bs key).toArray) rfl rfl (by kernel_rfl) (by kernel_rfl) (by kernel_rfl) (fun _ _ _ h => h) (by assumption) (yieldsIf_load_mid (by rfl) _ _ rfl P (0) rfl (bs key) _ (fun w h => h.1) huk rfl hik) ?_
  simp only [List.set_cons_zero, List.set_cons_succ]
  refine wpAnyH_takeL (i := 4) 7 (v := ?_) rfl rfl (by kernel_rfl) (by kernel_rfl) (by kernel_rfl) (fun _ _ _ h => h) (by assumption) (Or.inl ⟨by rfl, ?_⟩) ?_
  rotate_left
  · intro w hSw; go_simp; (try with_reducible rfl)
  simp only [List.set_cons_zero, List.set_cons_succ]
  refine wpAnyH_takeL (i := 5) 8 (v := .agg (bs nonce).toArray) rfl rfl (by kernel_rfl) (by kernel_rfl) (by kernel_rfl) (fun _ _ _ h => h) (by assumption) (yieldsIf_load_mid (by rfl) _ _ rfl P (32) rfl (bs nonce) _ (fun w h => h.2.1) hun rfl hin) ?_
  simp only [List.set_cons_zero, List.set_cons_succ]
  refine wpAnyH_takeL (i := 6) 9 (v := ?_) rfl rfl (by kernel_rfl) (by kernel_rfl) (by kernel_rfl) (fun _ _ _ h => h) (by assumption) (Or.inl ⟨by rfl, ?_⟩) ?_
  rotate_left
  · intro w hSw; go_simp; (try with_reducible rfl)
  simp only [List.set_cons_zero, List.set_cons_succ]
  refine wpAnyH_takeL (i := 7) 10 (v := ?_) rfl rfl (by kernel_rfl) (by kernel_rfl) (by kernel_rfl) (fun _ _ _ h => h) (by assumption) (Or.inl ⟨by rfl, ?_⟩) ?_
  rotate_left
  · intro w hSw; go_simp; (try with_reducible rfl)
  simp only [List.set_cons_zero, List.set_cons_succ]
  refine wpAnyH_takeL (i := 9) 12 (v := ?_) rfl rfl (by kernel_rfl) (by kernel_rfl) (by kernel_rfl) (fun _ _ _ h => h) (by assumption) (Or.inl ⟨by rfl, ?_⟩) ?_
  rotate_left
  · intro w hSw; go_simp; (try with_reducible rfl)
  simp only [List.set_cons_zero, List.set_cons_succ]
  refine wpAnyH_takeL (i := 10) 13 (v := .agg (bs key).toArray) rfl rfl (by kernel_rfl) (by kernel_rfl) (by kernel_rfl) (fun _ _ _ h => h) (by assumption) (yieldsIf_load_mid (by rfl) _ _ rfl P (0) rfl (bs key) _ (fun w h => h.1) huk rfl hik) ?_
  simp only [List.set_cons_zero, List.set_cons_succ]
  refine wpAnyH_takeL (i := 11) 14 (v := ?_) rfl rfl (by kernel_rfl) (by kernel_rfl) (by kernel_rfl) (fun _ _ _ h => h) (by assumption) (Or.inl ⟨by rfl, ?_⟩) ?_
  rotate_left
  · intro w hSw; go_simp; (try with_reducible rfl)
  simp only [List.set_cons_zero, List.set_cons_succ]
  refine wpAnyH_takeL (i := 12) 15 (v := .agg (bs nonce).toArray) rfl rfl (by kernel_rfl) (by kernel_rfl) (by kernel_rfl) (fun _ _ _ h => h) (by assumption) (yieldsIf_load_mid (by rfl) _ _ rfl P (32) rfl (bs nonce) _ (fun w h => h.2.1) hun rfl hin) ?_
  simp only [List.set_cons_zero, List.set_cons_succ]
  refine wpAnyH_takeL (i := 13) 16 (v := ?_) rfl rfl (by kernel_rfl) (by kernel_rfl) (by kernel_rfl) (fun _ _ _ h => h) (by assumption) (Or.inl ⟨by rfl, ?_⟩) ?_
  rotate_left
  · intro w hSw; go_simp; (try with_reducible rfl)
  simp only [List.set_cons_zero, List.set_cons_succ]
  refine wpAnyH_takeL (i := 14) 17 (v := ?_) rfl rfl (by kernel_rfl) (by kernel_rfl) (by kernel_rfl) (fun _ _ _ h => h) (by assumption) (Or.inl ⟨by rfl, ?_⟩) ?_
  rotate_left
  · intro w hSw; go_simp; (try with_reducible rfl)
  simp only [List.set_cons_zero, List.set_cons_succ]
  refine wpAnyH_ready (rs := [8]) (by kernel_rfl) (by simp) ?_
  refine AllReadyH.cons (o := ⟨some 11, _, _, _, _, _⟩) rfl (fun K hK => ?_) (AllReadyH.nil)
  go_simp
  go_wp2_with (go_at_call 9; refine (block_any key nonce count _ HK.out.1 HK.out.2.1 HK.out.2.2 (HS.out.non (HF1.out.non ((Fr.drew _).non F2.out)))).mono ?_; rintro e r3 ⟨rfl, hf3⟩)
  rw [← HD.out]
  have F3 : Hid (Fr Non r2 r3) := Lib.hid hf3
  clear hf3
  refine hK.out _ _ (HPB.out.non ((Fr.drew _).non (F2.out.non F3.out))) (fun hHeld => ?_)
  clear hK K
  refine wpAnyH_ready (rs := [15]) (by kernel_rfl) (by simp) ?_
  refine AllReadyH.cons (o := ⟨some 18, _, _, _, _, _⟩) rfl (fun K hK => ?_) (AllReadyH.nil)
  go_simp
  go_wp2_with (go_at_call 10; refine (blockL_any key nonce count _ HK.out.1 HK.out.2.1 HK.out.2.2).mono ?_; rintro e r4 ⟨rfl, hf4⟩)
  rw [← HD.out]
  have F4 : Hid (Fr Non r3 r4) := Lib.hid hf4
  clear hf4
  refine hK.out _ _ (HPB.out.non ((Fr.drew _).non (F2.out.non (F3.out.non F4.out)))) (fun hHeld => ?_)
  clear hK K
  refine wpAnyH_takeL (i := 16) 19 (v := ?_) rfl rfl (by kernel_rfl) (by kernel_rfl) (by kernel_rfl) (fun _ _ _ h => h) (by assumption) (Or.inl ⟨by rfl, ?_⟩) ?_
  rotate_left
  · intro w hSw; go_simp; (try with_reducible rfl)
  simp only [List.set_cons_zero, List.set_cons_succ]
  refine wpAnyH_takeL (i := 17) 20 (v := ?_) rfl rfl (by kernel_rfl) (by kernel_rfl) (by kernel_rfl) (fun _ _ _ h => h) (by assumption) (Or.inl ⟨by rfl, ?_⟩) ?_
  rotate_left
  · intro w hSw; go_simp; (try with_reducible rfl)
  simp only [List.set_cons_zero, List.set_cons_succ]
  refine wpAnyH_takeL (i := 18) 2 (v := ?_) rfl rfl (by kernel_rfl) (by kernel_rfl) (by kernel_rfl) (fun _ _ _ h => h) (by assumption) (Or.inl ⟨by rfl, ?_⟩) ?_
  rotate_left
  · intro w hSw; go_simp; (try with_reducible rfl)
  simp only [List.set_cons_zero, List.set_cons_succ]
  refine wpAnyH_done (by kernel_rfl) ?_ _
  go_wp2_with fail
  go_ret
  exact ⟨rfl, HF1.out.non ((Fr.drew _).non (F2.out.non (F3.out.non F4.out)))⟩
end Go.Proofs.YtcooibfnnjgjkaaDoor
