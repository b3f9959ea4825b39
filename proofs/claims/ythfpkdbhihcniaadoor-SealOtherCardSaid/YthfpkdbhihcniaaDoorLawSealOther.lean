/- SealOther: whatever the input, the law returns true and the input reads as it did. -/
import Derived.Test.YthfpkdbhihcniaaDoorLaw06F
import Derived.Test.YthfpkdbhihcniaaDoorGround
import Derived.Test.YthfpkdbhihcniaaDoorTie
import Derived.Test.YthfpkdbhihcniaaDoorCards
import Derived.SevenTiedAt
import Derived.Stop.Joined
import Derived.LaidMore
import Derived.OpenShut

namespace Go.Proofs.YthfpkdbhihcniaaDoor.sealOther
open Go.ChangeShapes Go.WideShapes Go.ChangeAt Go.RowKit
open Go.ChangeMaps (open_string shut_string)
set_option linter.unusedVariables false

theorem door_met (os : Os) (args : Array Value) : laidMetH Tryd.prog Rows.sealOtherRow.laid ((World.doorLaid Tryd.prog 400 os).forCall (fun _ _ => 0) ⟨#[], args, []⟩).memory :=
  laidMetH_of_parts3 (fuel := 8) (laidMet_of_run' 8 (by kernel_rfl) (by kernel_rfl)) (by kernel_rfl) (by kernel_rfl)

set_option maxRecDepth 100000 in
theorem lifted (os : Os) (started : os.Started) (H : Type) (enc : TypeId × Value → H) :
    ReturnsInHanded {} Tryd.checked os 7 .any (fun w args => (Rows.sealOtherSpec.pre enc Tryd.prog Tryd.f7 [] false w args ∧ laidMetH Tryd.prog Rows.sealOtherRow.laid w) ∧ sizedMet enc Tryd.prog Tryd.f7 (OpenSpec.ofChange Rows.sealOtherSpec) false w args) (Rows.sealOtherSpec.post enc Tryd.prog Tryd.f7 false true false false) := by
  refine returnsInHanded_of_change_and (C := Tryd.checked) (X := fun w _ => laidMetH Tryd.prog Rows.sealOtherRow.laid w) (fun _ _ _ hh h => h.of_heap hh) ownKn started (by kernel_rfl) Tryd.func7
    (ChangeSpec.witness_shaped (enc := enc) (C := Tryd.checked) (os := os) (X := fun w _ => laidMetH Tryd.prog Rows.sealOtherRow.laid w) false (World.doorLaid Tryd.prog 400 os) #[.agg (bs (List.replicate 32 0) ++ bs (List.replicate 32 0) ++ bs (List.replicate 12 0) ++ [Value.slice none 0 0]).toArray, .agg (bs (List.replicate 32 0) ++ bs (List.replicate 32 0) ++ bs (List.replicate 12 0) ++ [Value.slice none 0 0]).toArray, .slice none 0 0] 8 rfl (World.shaped_of_RefB (by kernel_rfl) (by kernel_rfl)) (by kernel_rfl) (by kernel_rfl) (by kernel_rfl) (door_met os _)) ?_
  intro W base args ds gs before hval0 hW _ hsz0 hL _
  have hsz : (DataW.weightsEach Tryd.prog (Tryd.f7.params.toList ++ Rows.sealOtherSpec.plain.varTypes Tryd.prog) (ds ++ gs)).all (· ≤ reachBytes) = true := hsz0
  have hval : ∀ (j : Nat) t v, Tryd.f7.params[j]? = some t → args[j]? = some v → Value.okWide Tryd.prog W .any base t v := hval0
  have hW' := hW
  obtain ⟨p, q, hA0, hV, rfl, hfz, hnd⟩ := hW
  have hA : DataW.TrodAll enc Tryd.prog W 0 (fun _ => true) true Tryd.f7.params.toList args.toList ds p := hA0
  rw [Tryd.params7] at hA hval hsz
  obtain ⟨v0, vs0, d0, ds0, p0, q0, hargs, rfl, rfl, h0, r_0⟩ := trodAll_cons hA
  obtain ⟨v1, vs1, d1, ds1, p1, q1, rfl, rfl, rfl, h1, r_1⟩ := trodAll_cons r_0
  obtain ⟨v2, vs2, d2, ds2, p2, q2, rfl, rfl, rfl, h2, r_2⟩ := trodAll_cons r_1
  obtain ⟨rfl, rfl, rfl⟩ := trodAll_nil r_2
  obtain rfl : args = #[v0, v1, v2] := by cases args; simp_all
  obtain ⟨rfl, rfl⟩ := trodVars_none hV
  have k0 := h0
  have lt0 : ∀ x ∈ p0, x.block < W.heap.size := by obtain ⟨m, hm⟩ := k0; exact DataW.trod_lt m _ _ _ hm
  have k1 := h1
  have lt1 : ∀ x ∈ p1, x.block < W.heap.size := by obtain ⟨m, hm⟩ := k1; exact DataW.trod_lt m _ _ _ hm
  have k2 := h2
  have lt2 : ∀ x ∈ p2, x.block < W.heap.size := by obtain ⟨m, hm⟩ := k2; exact DataW.trod_lt m _ _ _ hm
  obtain ⟨l0, m0, o0, x0, a0, y0, y01, y02, rfl, r0, s0, t0, q0, hd0, e0⟩ := open_with Tryd.underlying29 rfl rfl rfl Tryd.underlying24 rfl rfl Tryd.underlying22 Tryd.underlying22 Tryd.underlying26 Tryd.underlying27 Tryd.underlying5 (by kernel_rfl) (by kernel_rfl) (by kernel_rfl) (by kernel_rfl) (by kernel_rfl) (by kernel_rfl) (by kernel_rfl) (okWide_struct Tryd.underlying29 (hval 0 29 v0 rfl rfl)) h0
  have z0 : x0.length ≤ 140737488351232 := by
    subst hd0
    have hz := cap_of_sized (sized_parts hsz (j := 0) (t := 29) rfl rfl Tryd.underlying29) (j := 2) (t := 27) (e := 5) rfl rfl Tryd.underlying27 e0
    rw [show Tryd.prog.bytesOf 5 = 1 from by kernel_rfl] at hz
    omega
  obtain ⟨l1, m1, o1, x1, a1, y1, y11, y12, rfl, r1, s1, t1, q1, hd1, e1⟩ := open_with Tryd.underlying29 rfl rfl rfl Tryd.underlying24 rfl rfl Tryd.underlying22 Tryd.underlying22 Tryd.underlying26 Tryd.underlying27 Tryd.underlying5 (by kernel_rfl) (by kernel_rfl) (by kernel_rfl) (by kernel_rfl) (by kernel_rfl) (by kernel_rfl) (by kernel_rfl) (okWide_struct Tryd.underlying29 (hval 1 29 v1 rfl rfl)) h1
  have z1 : x1.length ≤ 140737488351232 := by
    subst hd1
    have hz := cap_of_sized (sized_parts hsz (j := 1) (t := 29) rfl rfl Tryd.underlying29) (j := 2) (t := 27) (e := 5) rfl rfl Tryd.underlying27 e1
    rw [show Tryd.prog.bytesOf 5 = 1 from by kernel_rfl] at hz
    omega
  obtain ⟨l2, r2, e2⟩ := open_rowBytes Tryd.underlying27 Tryd.underlying5 (by kernel_rfl) (okWide_slice Tryd.underlying27 (hval 2 27 v2 rfl rfl)) h2
  have ee2 : (d2 = .nil ∧ l2.length = 0) ∨ ∃ elems spare, d2 = .slice elems spare ∧ elems.length = l2.length := e2.imp (fun h => ⟨h.1, by rw [h.2]; rfl⟩) id
  have z2 := cap_of_sized hsz (j := 2) (t := 27) (e := 5) rfl rfl Tryd.underlying27 ee2
  rw [show Tryd.prog.bytesOf 5 = 1 from by kernel_rfl] at z2
  clear hA0 hval0
  refine (other6_any W l0 m0 o0 x0 a0 l1 m1 o1 x1 a1 v2 l2 hL r0 s0 t0 q0 z0 r1 s1 t1 q1 z1 r2 (by omega)).mono fun e W' ⟨he, hfr⟩ => ?_
  have bel := hfr.nonBelow
  subst he
  exact ⟨_, rfl, _, _, _, [], _, [], hW', trodAll_mk1 (shut_bool Tryd.underlying4 _), (trodAll_cons_mk (Below.trod laidOut (by kernel_rfl) (of_decide_eq_true (by kernel_rfl)) k0 bel lt0) (trodAll_cons_mk (Below.trod laidOut (by kernel_rfl) (of_decide_eq_true (by kernel_rfl)) k1 bel lt1) (trodAll_cons_mk (Below.trod laidOut (by kernel_rfl) (of_decide_eq_true (by kernel_rfl)) k2 bel lt2) trodAll_mk0))), rfl, bel.frame _, fun h => by cases h⟩

theorem over : Rows.sealOtherRow.holds Tryd.pinned (OpenSpec.ofChange Rows.sealOtherSpec) :=
  OpenClaim.holds_of_wide 7 Tryd.f7 rfl rfl rfl rfl rfl rfl rfl ⟨rfl, rfl, rfl, rfl, rfl⟩ rfl rfl rfl rfl rfl (by kernel_rfl) Tryd.func7 (by kernel_rfl)
    (of_decide_eq_true (by kernel_rfl)) (by unfold Func.isWrapper; first | (rw [if_pos (by decide +kernel)]; kernel_rfl) | (rw [if_neg (by decide +kernel)]; exact ⟨rfl, rfl⟩))
    (fun os started H enc _ => lifted os started H enc)

theorem proved : Rows.SealOtherSaid := over

theorem carded : Rows.SealOtherCardSaid :=
  Claim7.holds_tied_plain_at .later [] [.data, .data, .data] true (true, "5920d9f51b291cca219c0198b3c54a947b38d3852b6b6a5db82c183152ead297") false
    proved (fun _ h => by cases h) (by kernel_rfl) (fun _ h => by cases h) sealOther_row_tie rfl ⟨rfl, rfl⟩ (by kernel_rfl) rfl
    (fun f fn hf hfn => by
      obtain rfl : f = 7 := Option.some.inj ((show Tryd.prog.funcNamed "tantalus/tantaluslaw06.SealOther" = some 7 by kernel_rfl).symm.trans hf) |>.symm
      obtain rfl : fn = Tryd.f7 := (Option.some.inj (Tryd.func7.symm.trans hfn)).symm
      exact ⟨by kernel_rfl, fun j t ht => by
        rw [Tryd.params7] at ht
        have hm : t ∈ [29, 29, 27] := by simpa using Array.mem_of_getElem? ht
        have hall : ([29, 29, 27].all fun u => !Tryd.prog.wantsStandIn u) = true := by kernel_rfl
        exact (show Tryd.prog.wantsStandIn t = false by simpa using List.all_eq_true.1 hall t hm)⟩)
    (by kernel_rfl)
end Go.Proofs.YthfpkdbhihcniaaDoor.sealOther
