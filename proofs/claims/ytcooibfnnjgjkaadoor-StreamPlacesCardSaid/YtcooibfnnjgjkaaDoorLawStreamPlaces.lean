/- StreamPlaces: whatever the input, the law returns true and the input reads as it did. -/
import Derived.Test.YtcooibfnnjgjkaaDoorLaw05F
import Derived.Test.YtcooibfnnjgjkaaDoorShell
import Derived.Test.YtcooibfnnjgjkaaDoorLaid
import Derived.Test.YtcooibfnnjgjkaaDoorTie
import Derived.Test.YtcooibfnnjgjkaaDoorCards
import Derived.SevenTiedAt
import Derived.Stop.Joined
import Derived.LaidMore
import Derived.OpenShut
import Derived.Test.YtcooibfnnjgjkaaDoorArrS
namespace Go.Proofs.YtcooibfnnjgjkaaDoor.streamPlaces
open Go.ChangeShapes Go.WideShapes Go.ChangeAt Go.RowKit
open Go.ChangeMaps (open_string shut_string)
set_option linter.unusedVariables false

theorem door_met (os : Os) (args : Array Value) : laidMetH Tryd.prog Rows.streamPlacesRow.laid ((World.doorLaid Tryd.prog 400 os).forCall (fun _ _ => 0) ⟨#[], args, []⟩).memory :=
  laidMetH_of_parts3 (fuel := 8) (laidMet_of_run' 8 (by kernel_rfl) (by kernel_rfl)) (by kernel_rfl) (by kernel_rfl)

set_option maxRecDepth 100000 in
theorem lifted (os : Os) (started : os.Started) (H : Type) (enc : TypeId × Value → H) :
    ReturnsInHanded {} Tryd.checked os 7 .any (fun w args => (Rows.streamPlacesSpec.pre enc Tryd.prog Tryd.f7 [] false w args ∧ laidMetH Tryd.prog Rows.streamPlacesRow.laid w) ∧ sizedMet enc Tryd.prog Tryd.f7 (OpenSpec.ofChange Rows.streamPlacesSpec) false w args) (Rows.streamPlacesSpec.post enc Tryd.prog Tryd.f7 false true false false) := by
  refine returnsInHanded_of_change_and (C := Tryd.checked) (X := fun w _ => laidMetH Tryd.prog Rows.streamPlacesRow.laid w) (fun _ _ _ hh h => h.of_heap hh) ownKn started (by kernel_rfl) Tryd.func7
    (ChangeSpec.witness_shaped (enc := enc) (C := Tryd.checked) (os := os) (X := fun w _ => laidMetH Tryd.prog Rows.streamPlacesRow.laid w) false (World.doorLaid Tryd.prog 400 os) #[.agg (bs (List.replicate 32 0) ++ bs (List.replicate 12 0) ++ [Value.int .u32 0]).toArray, .slice none 0 0, .slice none 0 0] 8 rfl (World.shaped_of_RefB (by kernel_rfl) (by kernel_rfl)) (by kernel_rfl) (by kernel_rfl) (by kernel_rfl) (door_met os _)) ?_
  intro W base args ds gs before hval0 hW _ hsz0 hL _
  have hsz : (DataW.weightsEach Tryd.prog (Tryd.f7.params.toList ++ Rows.streamPlacesSpec.plain.varTypes Tryd.prog) (ds ++ gs)).all (· ≤ reachBytes) = true := hsz0
  have hval : ∀ (j : Nat) t v, Tryd.f7.params[j]? = some t → args[j]? = some v → Value.okWide Tryd.prog W .any base t v := hval0
  have hW' := hW
  obtain ⟨p, q, hA0, hV, rfl, hfz, hnd⟩ := hW
  have hA : DataW.TrodAll enc Tryd.prog W 0 (fun _ => true) true Tryd.f7.params.toList args.toList ds p := hA0
  rw [Tryd.params7] at hA hval hsz
  obtain ⟨v0, vs0, d0, ds0, p0, q0, hargs, rfl, rfl, h0, r_0⟩ := trodAll_cons hA
  obtain ⟨v1, vs1, d1, ds1, p1, q1, rfl, rfl, rfl, h1, r_1⟩ := trodAll_cons r_0
  obtain ⟨v2, vs2, d2, ds2, p2, q2, rfl, rfl, rfl, h2, r_2⟩ := trodAll_cons r_1
  obtain ⟨rfl, rfl, rfl⟩ := trodAll_nil r_2
  obtain rfl : args = #[v0, v1, v2] := by cases args; simp_all
  obtain ⟨rfl, rfl⟩ := trodVars_none hV
  have k0 := h0
  have lt0 : ∀ x ∈ p0, x.block < W.heap.size := by obtain ⟨m, hm⟩ := k0; exact DataW.trod_lt m _ _ _ hm
  have k1 := h1
  have lt1 : ∀ x ∈ p1, x.block < W.heap.size := by obtain ⟨m, hm⟩ := k1; exact DataW.trod_lt m _ _ _ hm
  have k2 := h2
  have lt2 : ∀ x ∈ p2, x.block < W.heap.size := by obtain ⟨m, hm⟩ := k2; exact DataW.trod_lt m _ _ _ hm
  obtain ⟨l0, x0, a0, rfl, r0, q0, w0⟩ := open_two (k := .u32) Tryd.underlying26 rfl rfl rfl Tryd.underlying22 Tryd.underlying23 Tryd.underlying24 Tryd.underlying5 (by kernel_rfl) (by kernel_rfl) (by kernel_rfl) (by kernel_rfl) (by kernel_rfl) (okWide_struct Tryd.underlying26 (hval 0 26 v0 rfl rfl)) h0
  obtain ⟨n0, rfl, u0⟩ := nat_of_wf w0 (by decide)
  obtain ⟨l1, r1, e1⟩ := open_rowBytes Tryd.underlying31 Tryd.underlying5 (by kernel_rfl) (okWide_slice Tryd.underlying31 (hval 1 31 v1 rfl rfl)) h1
  have ee1 : (d1 = .nil ∧ l1.length = 0) ∨ ∃ elems spare, d1 = .slice elems spare ∧ elems.length = l1.length := e1.imp (fun h => ⟨h.1, by rw [h.2]; rfl⟩) id
  have z1 := cap_of_sized hsz (j := 1) (t := 31) (e := 5) rfl rfl Tryd.underlying31 ee1
  rw [show Tryd.prog.bytesOf 5 = 1 from by kernel_rfl] at z1
  obtain ⟨l2, r2, e2⟩ := open_rowBytes Tryd.underlying31 Tryd.underlying5 (by kernel_rfl) (okWide_slice Tryd.underlying31 (hval 2 31 v2 rfl rfl)) h2
  have ee2 : (d2 = .nil ∧ l2.length = 0) ∨ ∃ elems spare, d2 = .slice elems spare ∧ elems.length = l2.length := e2.imp (fun h => ⟨h.1, by rw [h.2]; rfl⟩) id
  have z2 := cap_of_sized hsz (j := 2) (t := 31) (e := 5) rfl rfl Tryd.underlying31 ee2
  rw [show Tryd.prog.bytesOf 5 = 1 from by kernel_rfl] at z2
  clear hA0 hval0
  refine (places5_any W l0 x0 n0 v1 l1 v2 l2 hL r0 q0 (by have h : (n0 : Int) ≤ 4294967295 := u0; omega) r1 (by omega) r2 (by omega)).mono fun e W' ⟨he, hfr⟩ => ?_
  have bel := hfr.nonBelow
  subst he
  exact ⟨_, rfl, _, _, _, [], _, [], hW', trodAll_mk1 (shut_bool Tryd.underlying4 _), (trodAll_cons_mk (Below.trod laidOut (by kernel_rfl) (of_decide_eq_true (by kernel_rfl)) k0 bel lt0) (trodAll_cons_mk (Below.trod laidOut (by kernel_rfl) (of_decide_eq_true (by kernel_rfl)) k1 bel lt1) (trodAll_cons_mk (Below.trod laidOut (by kernel_rfl) (of_decide_eq_true (by kernel_rfl)) k2 bel lt2) trodAll_mk0))), rfl, bel.frame _, fun h => by cases h⟩

theorem over : Rows.streamPlacesRow.holds Tryd.pinned (OpenSpec.ofChange Rows.streamPlacesSpec) :=
  OpenClaim.holds_of_wide 7 Tryd.f7 rfl rfl rfl rfl rfl rfl rfl ⟨rfl, rfl, rfl, rfl, rfl⟩ rfl rfl rfl rfl rfl (by kernel_rfl) Tryd.func7 (by kernel_rfl)
    (of_decide_eq_true (by kernel_rfl)) (by unfold Func.isWrapper; first | (rw [if_pos (by decide +kernel)]; kernel_rfl) | (rw [if_neg (by decide +kernel)]; exact ⟨rfl, rfl⟩))
    (fun os started H enc _ => lifted os started H enc)

theorem proved : Rows.StreamPlacesSaid := over

theorem carded : Rows.StreamPlacesCardSaid :=
  Claim7.holds_tied_plain_at .later [] [.data] true (true, "528fbfb480e108ff34ab137747d1c7546c4500c3a06d18e15666f3bcce34e8e5") false
    proved (fun _ h => by cases h) (by kernel_rfl) (fun _ h => by cases h) streamPlaces_row_tie rfl ⟨rfl, rfl⟩ (by kernel_rfl) rfl
    (fun f fn hf hfn => by
      obtain rfl : f = 7 := Option.some.inj ((show Tryd.prog.funcNamed "tantalus/tantaluslaw05.StreamPlaces" = some 7 by kernel_rfl).symm.trans hf) |>.symm
      obtain rfl : fn = Tryd.f7 := (Option.some.inj (Tryd.func7.symm.trans hfn)).symm
      exact ⟨by kernel_rfl, fun j t ht => by
        rw [Tryd.params7] at ht
        have hm : t ∈ [26, 31, 31] := by simpa using Array.mem_of_getElem? ht
        have hall : ([26, 31, 31].all fun u => !Tryd.prog.wantsStandIn u) = true := by kernel_rfl
        exact (show Tryd.prog.wantsStandIn t = false by simpa using List.all_eq_true.1 hall t hm)⟩)
    (by kernel_rfl)
end Go.Proofs.YtcooibfnnjgjkaaDoor.streamPlaces
