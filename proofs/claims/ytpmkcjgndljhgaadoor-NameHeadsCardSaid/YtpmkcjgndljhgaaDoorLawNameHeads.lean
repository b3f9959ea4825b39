/- NameHeads: whatever the input, the law returns true and the input reads as it did. -/
import Derived.Test.YtpmkcjgndljhgaaDoorLaw07D
import Derived.Test.YtpmkcjgndljhgaaDoorNameOpZ
import Derived.Test.YtpmkcjgndljhgaaDoorShell
import Derived.Test.YtpmkcjgndljhgaaDoorLaid
import Derived.Test.YtpmkcjgndljhgaaDoorTie
import Derived.Test.YtpmkcjgndljhgaaDoorCards
import Derived.SevenTiedAt
import Derived.Stop.Joined
import Derived.LaidMore
import Derived.OpenShut
import Derived.Test.YtpmkcjgndljhgaaDoorArrH
namespace Go.Proofs.YtpmkcjgndljhgaaDoor.nameHeads
open Go.ChangeShapes Go.WideShapes Go.ChangeAt Go.RowKit
open Go.ChangeMaps (open_string shut_string)
set_option linter.unusedVariables false

theorem door_met (os : Os) (args : Array Value) : laidMetH Tryd.prog Rows.nameHeadsRow.laid ((World.doorLaid Tryd.prog 400 os).forCall (fun _ _ => 0) ⟨#[], args, []⟩).memory :=
  laidMetH_of_parts3 (fuel := 8) (laidMet_of_run' 8 (by kernel_rfl) (by kernel_rfl)) (by kernel_rfl) (by kernel_rfl)

set_option maxRecDepth 100000 in
theorem lifted (os : Os) (started : os.Started) (H : Type) (enc : TypeId × Value → H) :
    ReturnsInHanded {} Tryd.checked os 6 .any (fun w args => (Rows.nameHeadsSpec.pre enc Tryd.prog Tryd.f6 [] false w args ∧ laidMetH Tryd.prog Rows.nameHeadsRow.laid w) ∧ sizedMet enc Tryd.prog Tryd.f6 (OpenSpec.ofChange Rows.nameHeadsSpec) false w args) (Rows.nameHeadsSpec.post enc Tryd.prog Tryd.f6 false true false false) := by
  refine returnsInHanded_of_change_and (C := Tryd.checked) (X := fun w _ => laidMetH Tryd.prog Rows.nameHeadsRow.laid w) (fun _ _ _ hh h => h.of_heap hh) ownKn started (by kernel_rfl) Tryd.func6
    (ChangeSpec.witness_shaped (enc := enc) (C := Tryd.checked) (os := os) (X := fun w _ => laidMetH Tryd.prog Rows.nameHeadsRow.laid w) false (World.doorLaid Tryd.prog 400 os) #[.agg #[.int .u8 0, .int .u8 0, .int .u64 0, .int .u64 0, .int .u64 0], .slice none 0 0] 8 rfl (World.shaped_of_RefB (by kernel_rfl) (by kernel_rfl)) (by kernel_rfl) (by kernel_rfl) (by kernel_rfl) (door_met os _)) ?_
  intro W base args ds gs before hval0 hW _ hsz0 hL _
  have hsz : (DataW.weightsEach Tryd.prog (Tryd.f6.params.toList ++ Rows.nameHeadsSpec.plain.varTypes Tryd.prog) (ds ++ gs)).all (· ≤ reachBytes) = true := hsz0
  have hval : ∀ (j : Nat) t v, Tryd.f6.params[j]? = some t → args[j]? = some v → Value.okWide Tryd.prog W .any base t v := hval0
  have hW' := hW
  obtain ⟨p, q, hA0, hV, rfl, hfz, hnd⟩ := hW
  have hA : DataW.TrodAll enc Tryd.prog W 0 (fun _ => true) true Tryd.f6.params.toList args.toList ds p := hA0
  rw [Tryd.params6] at hA hval hsz
  obtain ⟨v0, vs0, d0, ds0, p0, q0, hargs, rfl, rfl, h0, r_0⟩ := trodAll_cons hA
  obtain ⟨v1, vs1, d1, ds1, p1, q1, rfl, rfl, rfl, h1, r_1⟩ := trodAll_cons r_0
  obtain ⟨rfl, rfl, rfl⟩ := trodAll_nil r_1
  obtain rfl : args = #[v0, v1] := by cases args; simp_all
  obtain ⟨rfl, rfl⟩ := trodVars_none hV
  have k0 := h0
  have lt0 : ∀ x ∈ p0, x.block < W.heap.size := by obtain ⟨m, hm⟩ := k0; exact DataW.trod_lt m _ _ _ hm
  have k1 := h1
  have lt1 : ∀ x ∈ p1, x.block < W.heap.size := by obtain ⟨m, hm⟩ := k1; exact DataW.trod_lt m _ _ _ hm
  obtain ⟨cs0, rfl, hl0, hz0⟩ := open_flat [.u8, .u8, .u64, .u64, .u64] Tryd.underlying32 rfl (fun i f k hi hk => by match i, hi, hk with | 0, hi, hk => (cases hi; cases hk; exact ⟨rfl, Tryd.underlying5, by kernel_rfl⟩) | 1, hi, hk => (cases hi; cases hk; exact ⟨rfl, Tryd.underlying5, by kernel_rfl⟩) | 2, hi, hk => (cases hi; cases hk; exact ⟨rfl, Tryd.underlying22, by kernel_rfl⟩) | 3, hi, hk => (cases hi; cases hk; exact ⟨rfl, Tryd.underlying22, by kernel_rfl⟩) | 4, hi, hk => (cases hi; cases hk; exact ⟨rfl, Tryd.underlying22, by kernel_rfl⟩) | i + 5, hi, hk => simp at hk) (by kernel_rfl) (okWide_struct Tryd.underlying32 (hval 0 32 v0 rfl rfl)) h0
  obtain ⟨a0_0, e0_0, w0_0⟩ := hz0 0 .u8 rfl
  obtain ⟨n0_0, rfl, u0_0⟩ := nat_of_wf w0_0 (by decide)
  obtain ⟨a0_1, e0_1, w0_1⟩ := hz0 1 .u8 rfl
  obtain ⟨n0_1, rfl, u0_1⟩ := nat_of_wf w0_1 (by decide)
  obtain ⟨a0_2, e0_2, w0_2⟩ := hz0 2 .u64 rfl
  obtain ⟨n0_2, rfl, u0_2⟩ := nat_of_wf w0_2 (by decide)
  obtain ⟨a0_3, e0_3, w0_3⟩ := hz0 3 .u64 rfl
  obtain ⟨n0_3, rfl, u0_3⟩ := nat_of_wf w0_3 (by decide)
  obtain ⟨a0_4, e0_4, w0_4⟩ := hz0 4 .u64 rfl
  obtain ⟨n0_4, rfl, u0_4⟩ := nat_of_wf w0_4 (by decide)
  obtain rfl := list5 hl0 e0_0 e0_1 e0_2 e0_3 e0_4
  obtain ⟨l1, r1, e1⟩ := open_rowBytes Tryd.underlying33 Tryd.underlying5 (by kernel_rfl) (okWide_slice Tryd.underlying33 (hval 1 33 v1 rfl rfl)) h1
  have ee1 : (d1 = .nil ∧ l1.length = 0) ∨ ∃ elems spare, d1 = .slice elems spare ∧ elems.length = l1.length := e1.imp (fun h => ⟨h.1, by rw [h.2]; rfl⟩) id
  have z1 := cap_of_sized hsz (j := 1) (t := 33) (e := 5) rfl rfl Tryd.underlying33 ee1
  rw [show Tryd.prog.bytesOf 5 = 1 from by kernel_rfl] at z1
  clear hA0 hval0
  refine ((heads7_any nameC) W ⟨n0_0, n0_1, n0_2, n0_3, n0_4⟩ v1 l1 (by obtain ⟨ps, h, -⟩ := hL; exact pow_of h) ⟨(show n0_0 < 256 from by have h : (n0_0 : Int) ≤ 255 := u0_0; omega), (show n0_1 < 256 from by have h : (n0_1 : Int) ≤ 255 := u0_1; omega), (show n0_2 < 18446744073709551616 from by have h : (n0_2 : Int) ≤ 18446744073709551615 := u0_2; omega), (show n0_3 < 18446744073709551616 from by have h : (n0_3 : Int) ≤ 18446744073709551615 := u0_3; omega), (show n0_4 < 18446744073709551616 from by have h : (n0_4 : Int) ≤ 18446744073709551615 := u0_4; omega)⟩ r1 (by omega)).mono fun e W' ⟨he, hfr⟩ => ?_
  have bel := hfr.nonBelow
  subst he
  exact ⟨_, rfl, _, _, _, [], _, [], hW', trodAll_mk1 (shut_bool Tryd.underlying4 _), (trodAll_cons_mk (Below.trod laidOut (by kernel_rfl) (of_decide_eq_true (by kernel_rfl)) k0 bel lt0) (trodAll_cons_mk (Below.trod laidOut (by kernel_rfl) (of_decide_eq_true (by kernel_rfl)) k1 bel lt1) trodAll_mk0)), rfl, bel.frame _, fun h => by cases h⟩

theorem over : Rows.nameHeadsRow.holds Tryd.pinned (OpenSpec.ofChange Rows.nameHeadsSpec) :=
  OpenClaim.holds_of_wide 6 Tryd.f6 rfl rfl rfl rfl rfl rfl rfl ⟨rfl, rfl, rfl, rfl, rfl⟩ rfl rfl rfl rfl rfl (by kernel_rfl) Tryd.func6 (by kernel_rfl)
    (of_decide_eq_true (by kernel_rfl)) (by unfold Func.isWrapper; first | (rw [if_pos (by decide +kernel)]; kernel_rfl) | (rw [if_neg (by decide +kernel)]; exact ⟨rfl, rfl⟩))
    (fun os started H enc _ => lifted os started H enc)

theorem proved : Rows.NameHeadsSaid := over

theorem carded : Rows.NameHeadsCardSaid :=
  Claim7.holds_tied_plain_at .later [] [.data, .data, .data] true (true, "0c8e0dcf0096d9f12749273186f3b9c6a1f4f12de1c509cce9ecd22ca43d7e8d") false
    proved (fun _ h => by cases h) (by kernel_rfl) (fun _ h => by cases h) nameHeads_row_tie rfl ⟨rfl, rfl⟩ (by kernel_rfl) rfl
    (fun f fn hf hfn => by
      obtain rfl : f = 6 := Option.some.inj ((show Tryd.prog.funcNamed "tantalus/tantaluslaw07.NameHeads" = some 6 by kernel_rfl).symm.trans hf) |>.symm
      obtain rfl : fn = Tryd.f6 := (Option.some.inj (Tryd.func6.symm.trans hfn)).symm
      exact ⟨by kernel_rfl, fun j t ht => by
        rw [Tryd.params6] at ht
        have hm : t ∈ [32, 33] := by simpa using Array.mem_of_getElem? ht
        have hall : ([32, 33].all fun u => !Tryd.prog.wantsStandIn u) = true := by kernel_rfl
        exact (show Tryd.prog.wantsStandIn t = false by simpa using List.all_eq_true.1 hall t hm)⟩)
    (by kernel_rfl)
end Go.Proofs.YtpmkcjgndljhgaaDoor.nameHeads
