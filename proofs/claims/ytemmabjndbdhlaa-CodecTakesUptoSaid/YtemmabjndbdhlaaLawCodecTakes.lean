/- CodecTakes: whatever the input of bulk at most 1048576, the law returns true and the input reads as it did. -/
import Derived.Test.YtemmabjndbdhlaaLaw01F
import Derived.Test.YtemmabjndbdhlaaShell
import Derived.Test.YtemmabjndbdhlaaBulk
import Derived.Test.YtemmabjndbdhlaaShellPairs
namespace Go.Proofs.Ytemmabjndbdhlaa.codecTakes
open Go.ChangeShapes Go.WideShapes Go.ChangeAt Go.RowKit
open Go.ChangeMaps (open_string shut_string)
set_option linter.unusedVariables false

set_option maxRecDepth 100000 in
theorem lifted (os : Os) (started : os.Started) (H : Type) (enc : TypeId × Value → H) (F : Stop.Interp) :
    ReturnsInHanded {} Try.checked os 4 .any ((Rows.OpenSpec.upto Rows.codecTakesSpec).pre6 enc Try.prog Try.f4 Rows.codecTakesUptoRow.domain false) (((Rows.OpenSpec.upto Rows.codecTakesSpec).at F).post enc Try.prog Try.f4 false true false false) := by
  refine returnsInHanded_of_cond (C := Try.checked) (s := Rows.OpenSpec.upto Rows.codecTakesSpec) (k := Rows.uptoSmall) rfl ownKn started (by kernel_rfl) Try.func4
    (OpenSpec.witness (enc := enc) (C := Try.checked) (s := Rows.OpenSpec.upto Rows.codecTakesSpec) (k := Rows.uptoSmall) rfl false ⟨#[], #[.slice none 0 0, .slice none 0 0], []⟩ 8 (by kernel_rfl) (by kernel_rfl) (by kernel_rfl)
      (x := ([.nil, .nil], [], [])) (by kernel_rfl) rfl (by kernel_rfl)) ?_
  intro W base args ds gs before hval0 hW _ hk _
  have hval : ∀ (j : Nat) t v, Try.f4.params[j]? = some t → args[j]? = some v → Value.okWide Try.prog W .any base t v := hval0
  have hW' := hW
  obtain ⟨p, q, hA0, hV, rfl, hfz, hnd⟩ := hW
  have hA : DataW.TrodAll enc Try.prog W 0 (fun _ => true) true Try.f4.params.toList args.toList ds p := hA0
  rw [Try.params4] at hA hval
  obtain ⟨v0, vs0, d0, ds0, p0, q0, hargs, rfl, rfl, h0, r_0⟩ := trodAll_cons hA
  obtain ⟨v1, vs1, d1, ds1, p1, q1, rfl, rfl, rfl, h1, r_1⟩ := trodAll_cons r_0
  obtain ⟨rfl, rfl, rfl⟩ := trodAll_nil r_1
  obtain rfl : args = #[v0, v1] := by cases args; simp_all
  obtain ⟨rfl, rfl⟩ := trodVars_none hV
  have k0 := h0
  have lt0 : ∀ x ∈ p0, x.block < W.heap.size := by obtain ⟨m, hm⟩ := k0; exact DataW.trod_lt m _ _ _ hm
  have k1 := h1
  have lt1 : ∀ x ∈ p1, x.block < W.heap.size := by obtain ⟨m, hm⟩ := k1; exact DataW.trod_lt m _ _ _ hm
  have hk1 : Rows.uptoSmall H [d0, d1] = true := by simpa only [List.append_nil] using hk
  have hk2 : Rows.uptoBulkAll [d0, d1] ≤ 1048576 := of_decide_eq_true hk1
  have hbulk : ∀ (j : Nat) d, [d0, d1][j]? = some d → Rows.uptoBulk d ≤ 1048576 := fun j d hj => Nat.le_trans (bulks.part_le (List.mem_of_getElem? hj)) hk2
  obtain ⟨l0, r0, e0⟩ := open_rowBytes Try.underlying22 Try.underlying5 (by kernel_rfl) (okWide_slice Try.underlying22 (hval 0 22 v0 rfl rfl)) h0
  have ee0 : (d0 = .nil ∧ l0.length = 0) ∨ ∃ elems spare, d0 = .slice elems spare ∧ elems.length = l0.length := e0.imp (fun h => ⟨h.1, by rw [h.2]; rfl⟩) id
  have z0 : l0.length ≤ 1048576 := by
    have hb := hbulk 0 d0 rfl
    rcases ee0 with ⟨_, h⟩ | ⟨elems, spare, h, h2⟩
    · omega
    · rw [h] at hb; have := bulks.slice_le elems spare; omega
  obtain ⟨l1, r1, g1, ee1⟩ := open_rowPairs (k0 := .u8) (k1 := .i64) Try.underlying32 Try.underlying39 (by kernel_rfl) rfl rfl (by kernel_rfl) (by kernel_rfl) (by kernel_rfl) (by kernel_rfl) (okWide_slice Try.underlying32 (hval 1 32 v1 rfl rfl)) h1
  have z1 : l1.length ≤ 1048576 := by
    have hb := hbulk 1 d1 rfl
    rcases ee1 with ⟨_, h⟩ | ⟨elems, spare, h, h2⟩
    · omega
    · rw [h] at hb; have := bulks.slice_le elems spare; omega
  clear hA0 hval0
  refine (takesw W v0 l0 v1 l1 r0 z0 r1 g1 z1).mono fun e W' ⟨he, hfr⟩ => ?_
  have bel := hfr.nonBelow
  subst he
  exact ⟨_, rfl, _, _, _, [], _, [], hW', trodAll_mk1 (shut_bool Try.underlying4 _), (trodAll_cons_mk (Below.trod laidOut (by kernel_rfl) (of_decide_eq_true (by kernel_rfl)) k0 bel lt0) (trodAll_cons_mk (Below.trod laidOut (by kernel_rfl) (of_decide_eq_true (by kernel_rfl)) k1 bel lt1) trodAll_mk0)), rfl, bel.frame _, fun h => by cases h⟩

theorem over : Rows.codecTakesUptoRow.holds Try.pinned (Rows.OpenSpec.upto Rows.codecTakesSpec) :=
  OpenClaim.holds_of_cond 4 Try.f4 rfl rfl rfl rfl rfl rfl rfl ⟨rfl, rfl, rfl, rfl, rfl⟩ rfl rfl rfl rfl rfl (by kernel_rfl) Try.func4 (by kernel_rfl)
    (of_decide_eq_true (by kernel_rfl)) (by unfold Func.isWrapper; first | (rw [if_pos (by decide +kernel)]; kernel_rfl) | (rw [if_neg (by decide +kernel)]; exact ⟨rfl, rfl⟩))
    (fun os started H enc _ F => lifted os started H enc F)

theorem proved : Rows.CodecTakesUptoSaid := over
end Go.Proofs.Ytemmabjndbdhlaa.codecTakes
