/- IkeyRises: whatever the input, the law returns true and the input reads as it did. -/
import Derived.Test.YteokfgdennjjiaaLaw08C
import Derived.Test.YteokfgdennjjiaaIkeyOpZ
import Derived.Test.YteokfgdennjjiaaShell
import Derived.Test.YteokfgdennjjiaaFlat
import Derived.Test.YteokfgdennjjiaaFlatE
namespace Go.Proofs.Yteokfgdennjjiaa.ikeyRises
open Go.ChangeShapes Go.WideShapes Go.ChangeAt Go.RowKit
open Go.ChangeMaps (open_string shut_string)
set_option linter.unusedVariables false

set_option maxRecDepth 100000 in
theorem lifted (os : Os) (started : os.Started) (H : Type) (enc : TypeId × Value → H) :
    ReturnsInHanded {} Try.checked os 5 .any (Rows.ikeyRisesSpec.pre6 enc Try.prog Try.f5 Rows.ikeyRisesRow.domain false) (Rows.ikeyRisesSpec.post enc Try.prog Try.f5 false true false false) := by
  refine returnsInHanded_of_change_sized (C := Try.checked) ownKn started (by kernel_rfl) Try.func5
    (ChangeSpec.witness6 (enc := enc) (C := Try.checked) false ⟨#[], #[.slice none 0 0], []⟩ 8 (by kernel_rfl) (by kernel_rfl) (by kernel_rfl) (by kernel_rfl)) ?_
  intro W base args ds gs before hval0 hW _ hsz0 _
  have hsz : (DataW.weightsEach Try.prog (Try.f5.params.toList ++ Rows.ikeyRisesSpec.plain.varTypes Try.prog) (ds ++ gs)).all (· ≤ reachBytes) = true := hsz0
  have hval : ∀ (j : Nat) t v, Try.f5.params[j]? = some t → args[j]? = some v → Value.okWide Try.prog W .any base t v := hval0
  have hW' := hW
  obtain ⟨p, q, hA0, hV, rfl, hfz, hnd⟩ := hW
  have hA : DataW.TrodAll enc Try.prog W 0 (fun _ => true) true Try.f5.params.toList args.toList ds p := hA0
  rw [Try.params5] at hA hval hsz
  obtain ⟨v0, vs0, d0, ds0, p0, q0, hargs, rfl, rfl, h0, r_0⟩ := trodAll_cons hA
  obtain ⟨rfl, rfl, rfl⟩ := trodAll_nil r_0
  obtain rfl : args = #[v0] := by cases args; simp_all
  obtain ⟨rfl, rfl⟩ := trodVars_none hV
  have k0 := h0
  have lt0 : ∀ x ∈ p0, x.block < W.heap.size := by obtain ⟨m, hm⟩ := k0; exact DataW.trod_lt m _ _ _ hm
  obtain ⟨xss0, r0, g0, ee0⟩ := open_srow [.str, .int .u64, .int .u8, .str] Try.underlying34 Try.underlying24 rfl (fun i f k hi hk => by match i, hi, hk with | 0, hi, hk => (cases hi; cases hk; exact ⟨rfl, Try.underlying9, by kernel_rfl⟩) | 1, hi, hk => (cases hi; cases hk; exact ⟨rfl, Try.underlying22, by kernel_rfl⟩) | 2, hi, hk => (cases hi; cases hk; exact ⟨rfl, Try.underlying5, by kernel_rfl⟩) | 3, hi, hk => (cases hi; cases hk; exact ⟨rfl, Try.underlying9, by kernel_rfl⟩) | i + 4, hi, hk => simp at hk) (by kernel_rfl) (by decide) (okWide_slice Try.underlying34 (hval 0 34 v0 rfl rfl)) h0
  obtain ⟨es0, rfl, ok0⟩ := exists_map (f := entCells) (p := fun e => e.seq < 18446744073709551616 ∧ e.kind < 256) (l := xss0) (fun us hus => ent_of_cells (r0.lens us hus) (g0 us hus))
  clear hA0 hval0
  refine ((rises8_any ikeyC) W v0 es0 r0 ok0).mono fun e W' ⟨he, hfr⟩ => ?_
  have bel := hfr.nonBelow
  subst he
  exact ⟨_, rfl, _, _, _, [], _, [], hW', trodAll_mk1 (shut_bool Try.underlying4 _), (trodAll_cons_mk (Below.trod laidOut (by kernel_rfl) (of_decide_eq_true (by kernel_rfl)) k0 bel lt0) trodAll_mk0), rfl, bel.frame _, fun h => by cases h⟩

theorem over : Rows.ikeyRisesRow.holds Try.pinned (OpenSpec.ofChange Rows.ikeyRisesSpec) :=
  OpenClaim.holds_of_wide 5 Try.f5 rfl rfl rfl rfl rfl rfl rfl ⟨rfl, rfl, rfl, rfl, rfl⟩ rfl rfl rfl rfl rfl (by kernel_rfl) Try.func5 (by kernel_rfl)
    (of_decide_eq_true (by kernel_rfl)) (by unfold Func.isWrapper; first | (rw [if_pos (by decide +kernel)]; kernel_rfl) | (rw [if_neg (by decide +kernel)]; exact ⟨rfl, rfl⟩))
    (fun os started H enc _ => lifted os started H enc)

theorem proved : Rows.IkeyRisesSaid := over
end Go.Proofs.Yteokfgdennjjiaa.ikeyRises
