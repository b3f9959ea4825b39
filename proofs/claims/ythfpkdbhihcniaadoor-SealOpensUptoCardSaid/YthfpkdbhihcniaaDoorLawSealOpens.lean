/- SealOpens: whatever the input of bulk at most 1048576, the law returns true and the input reads as it did. -/
import Derived.Test.YthfpkdbhihcniaaDoorLaw06B
import Derived.Test.YthfpkdbhihcniaaDoorGround
import Derived.Test.YthfpkdbhihcniaaDoorTie
import Derived.Test.YthfpkdbhihcniaaDoorCards
import Derived.SevenTiedAt
import Derived.Stop.Joined
import Derived.LaidMore
import Derived.OpenShut

namespace Go.Proofs.YthfpkdbhihcniaaDoor.sealOpens
open Go.ChangeShapes Go.WideShapes Go.ChangeAt Go.RowKit
open Go.ChangeMaps (open_string shut_string)
set_option linter.unusedVariables false

theorem door_met (os : Os) (args : Array Value) : laidMetH Tryd.prog Rows.sealOpensUptoRow.laid ((World.doorLaid Tryd.prog 400 os).forCall (fun _ _ => 0) ⟨#[], args, []⟩).memory :=
  laidMetH_of_parts3 (fuel := 8) (laidMet_of_run' 8 (by kernel_rfl) (by kernel_rfl)) (by kernel_rfl) (by kernel_rfl)

theorem reads (os : Os) {H : Type} (enc : TypeId × Value → H) : ∃ places, DataW.whole enc Tryd.prog ((World.doorLaid Tryd.prog 400 os).forCall (fun _ _ => 0) ⟨#[], #[.agg (bs (List.replicate 32 0) ++ bs (List.replicate 32 0) ++ bs (List.replicate 12 0) ++ [Value.slice none 0 0]).toArray, .slice none 0 0], []⟩).memory Tryd.f4.params.toList Rows.sealOpensSpec.vars false #[.agg (bs (List.replicate 32 0) ++ bs (List.replicate 32 0) ++ bs (List.replicate 12 0) ++ [Value.slice none 0 0]).toArray, .slice none 0 0].toList 8 = some ([.agg [.agg [.agg (List.replicate 32 (.lit (.int .u8 0))), .agg (List.replicate 32 (.lit (.int .u8 0)))], .agg (List.replicate 12 (.lit (.int .u8 0))), .nil], .nil], [], places) :=
  ⟨[], by kernel_rfl⟩

set_option maxRecDepth 100000 in
theorem lifted (os : Os) (started : os.Started) (H : Type) (enc : TypeId × Value → H) (F : Stop.Interp) :
    ReturnsInHanded {} Tryd.checked os 4 .any ((Rows.OpenSpec.upto Rows.sealOpensSpec).preRow enc Tryd.prog Tryd.f4 Rows.sealOpensUptoRow.domain false Rows.sealOpensUptoRow.laid) (((Rows.OpenSpec.upto Rows.sealOpensSpec).at F).post enc Tryd.prog Tryd.f4 false true false false) := by
  obtain ⟨places, hx⟩ := reads os enc
  refine returnsInHanded_of_row (C := Tryd.checked) (s := Rows.OpenSpec.upto Rows.sealOpensSpec) ownKn started (by kernel_rfl) Tryd.func4
    (witness_row_shaped (enc := enc) (C := Tryd.checked) false (World.doorLaid Tryd.prog 400 os) #[.agg (bs (List.replicate 32 0) ++ bs (List.replicate 32 0) ++ bs (List.replicate 12 0) ++ [Value.slice none 0 0]).toArray, .slice none 0 0] rfl (World.shaped_of_RefB (by kernel_rfl) (by kernel_rfl)) (by kernel_rfl)
      (OpenSpec.preRow_of_cond 8 hx (by kernel_rfl) (fun k hk => by cases hk; kernel_rfl) (by kernel_rfl) (door_met os _))) ?_
  intro W base args ds gs before hval0 hW _ hcond _ hL _ _
  have hk := hcond _ rfl
  have hval : ∀ (j : Nat) t v, Tryd.f4.params[j]? = some t → args[j]? = some v → Value.okWide Tryd.prog W .any base t v := hval0
  have hW' := hW
  obtain ⟨p, q, hA0, hV, rfl, hfz, hnd⟩ := hW
  have hA : DataW.TrodAll enc Tryd.prog W 0 (fun _ => true) true Tryd.f4.params.toList args.toList ds p := hA0
  rw [Tryd.params4] at hA hval
  obtain ⟨v0, vs0, d0, ds0, p0, q0, hargs, rfl, rfl, h0, r_0⟩ := trodAll_cons hA
  obtain ⟨v1, vs1, d1, ds1, p1, q1, rfl, rfl, rfl, h1, r_1⟩ := trodAll_cons r_0
  obtain ⟨rfl, rfl, rfl⟩ := trodAll_nil r_1
  obtain rfl : args = #[v0, v1] := by cases args; simp_all
  obtain ⟨rfl, rfl⟩ := trodVars_none hV
  have k0 := h0
  have lt0 : ∀ x ∈ p0, x.block < W.heap.size := by obtain ⟨m, hm⟩ := k0; exact DataW.trod_lt m _ _ _ hm
  have k1 := h1
  have lt1 : ∀ x ∈ p1, x.block < W.heap.size := by obtain ⟨m, hm⟩ := k1; exact DataW.trod_lt m _ _ _ hm
  have hk1 : Rows.uptoSmall H [d0, d1] = true := by simpa only [List.append_nil] using hk
  have hk2 : Rows.uptoBulkAll [d0, d1] ≤ 1048576 := of_decide_eq_true hk1
  have hbulk : ∀ (j : Nat) d, [d0, d1][j]? = some d → Rows.uptoBulk d ≤ 1048576 := fun j d hj => Nat.le_trans (bulks.part_le (List.mem_of_getElem? hj)) hk2
  obtain ⟨l0, m0, o0, x0, a0, y0, y01, y02, rfl, r0, s0, t0, q0, hd0, e0⟩ := open_with Tryd.underlying29 rfl rfl rfl Tryd.underlying24 rfl rfl Tryd.underlying22 Tryd.underlying22 Tryd.underlying26 Tryd.underlying27 Tryd.underlying5 (by kernel_rfl) (by kernel_rfl) (by kernel_rfl) (by kernel_rfl) (by kernel_rfl) (by kernel_rfl) (by kernel_rfl) (okWide_struct Tryd.underlying29 (hval 0 29 v0 rfl rfl)) h0
  have z0 : x0.length ≤ 1048576 := by
    have hb := hbulk 0 d0 rfl
    rw [hd0] at hb
    have hc := bulks.agg_part (d := y02) (parts := [y0, y01, y02]) (by simp)
    rcases e0 with ⟨_, h⟩ | ⟨elems, spare, h, h2⟩
    · omega
    · rw [h] at hc hb; have := bulks.slice_le elems spare; omega
  obtain ⟨l1, r1, e1⟩ := open_rowBytes Tryd.underlying27 Tryd.underlying5 (by kernel_rfl) (okWide_slice Tryd.underlying27 (hval 1 27 v1 rfl rfl)) h1
  have ee1 : (d1 = .nil ∧ l1.length = 0) ∨ ∃ elems spare, d1 = .slice elems spare ∧ elems.length = l1.length := e1.imp (fun h => ⟨h.1, by rw [h.2]; rfl⟩) id
  have z1 : l1.length ≤ 1048576 := by
    have hb := hbulk 1 d1 rfl
    rcases ee1 with ⟨_, h⟩ | ⟨elems, spare, h, h2⟩
    · omega
    · rw [h] at hb; have := bulks.slice_le elems spare; omega
  clear hA0 hval0
  refine (opens6_any W l0 m0 o0 x0 a0 v1 l1 hL r0 s0 t0 q0 z0 r1 z1).mono fun e W' ⟨he, hfr⟩ => ?_
  have bel := hfr.nonBelow
  subst he
  exact ⟨_, rfl, _, _, _, [], _, [], hW', trodAll_mk1 (shut_bool Tryd.underlying4 _), (trodAll_cons_mk (Below.trod laidOut (by kernel_rfl) (of_decide_eq_true (by kernel_rfl)) k0 bel lt0) (trodAll_cons_mk (Below.trod laidOut (by kernel_rfl) (of_decide_eq_true (by kernel_rfl)) k1 bel lt1) trodAll_mk0)), rfl, bel.frame _, fun h => by cases h⟩

theorem over : Rows.sealOpensUptoRow.holds Tryd.pinned (Rows.OpenSpec.upto Rows.sealOpensSpec) :=
  OpenClaim.holds_of_cond 4 Tryd.f4 rfl rfl rfl rfl rfl rfl rfl ⟨rfl, rfl, rfl, rfl, rfl⟩ rfl rfl rfl rfl rfl (by kernel_rfl) Tryd.func4 (by kernel_rfl)
    (of_decide_eq_true (by kernel_rfl)) (by unfold Func.isWrapper; first | (rw [if_pos (by decide +kernel)]; kernel_rfl) | (rw [if_neg (by decide +kernel)]; exact ⟨rfl, rfl⟩))
    (fun os started H enc _ F => by rw [OpenClaim.pre_eq_preRow]; exact lifted os started H enc F)

theorem proved : Rows.SealOpensUptoSaid := over

theorem carded : Rows.SealOpensUptoCardSaid :=
  Claim7.holds_tied_plain_at .later [] _ _ _ _
    proved (fun _ h => by cases h) (by kernel_rfl) (fun _ h => by cases h) sealOpensUpto_row_tie rfl ⟨rfl, rfl⟩ (by kernel_rfl) rfl
    (fun f fn hf hfn => by
      obtain rfl : f = 4 := Option.some.inj ((show Tryd.prog.funcNamed "tantalus/tantaluslaw06.SealOpens" = some 4 by kernel_rfl).symm.trans hf) |>.symm
      obtain rfl : fn = Tryd.f4 := (Option.some.inj (Tryd.func4.symm.trans hfn)).symm
      exact ⟨by kernel_rfl, fun j t ht => by
        rw [Tryd.params4] at ht
        have hm : t ∈ [29, 27] := by simpa using Array.mem_of_getElem? ht
        have hall : ([29, 27].all fun u => !Tryd.prog.wantsStandIn u) = true := by kernel_rfl
        exact (show Tryd.prog.wantsStandIn t = false by simpa using List.all_eq_true.1 hall t hm)⟩)
    (by kernel_rfl)
end Go.Proofs.YthfpkdbhihcniaaDoor.sealOpens
