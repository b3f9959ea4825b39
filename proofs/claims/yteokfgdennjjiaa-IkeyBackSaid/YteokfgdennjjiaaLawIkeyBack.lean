/- IkeyBack: whatever the input, the law returns true and the input reads as it did. -/
import Derived.Test.YteokfgdennjjiaaLaw08E
import Derived.Test.YteokfgdennjjiaaIkeyOpZ
import Derived.Test.YteokfgdennjjiaaShell
import Derived.Test.YteokfgdennjjiaaFlat
namespace Go.Proofs.Yteokfgdennjjiaa.ikeyBack
open Go.ChangeShapes Go.WideShapes Go.ChangeAt Go.RowKit
open Go.ChangeMaps (open_string shut_string)
set_option linter.unusedVariables false

set_option maxRecDepth 100000 in
theorem lifted (os : Os) (started : os.Started) (H : Type) (enc : TypeId × Value → H) :
    ReturnsInHanded {} Try.checked os 8 .any (Rows.ikeyBackSpec.pre6 enc Try.prog Try.f8 Rows.ikeyBackRow.domain false) (Rows.ikeyBackSpec.post enc Try.prog Try.f8 false true false false) := by
  refine returnsInHanded_of_change_sized (C := Try.checked) ownKn started (by kernel_rfl) Try.func8
    (ChangeSpec.witness6 (enc := enc) (C := Try.checked) false ⟨#[], #[.agg #[.string .empty, .int .u64 0, .int .u8 0, .string .empty], .agg #[.string .empty, .int .u64 0, .int .u8 0, .string .empty]], []⟩ 8 (by kernel_rfl) (by kernel_rfl) (by kernel_rfl) (by kernel_rfl)) ?_
  intro W base args ds gs before hval0 hW _ hsz0 _
  have hsz : (DataW.weightsEach Try.prog (Try.f8.params.toList ++ Rows.ikeyBackSpec.plain.varTypes Try.prog) (ds ++ gs)).all (· ≤ reachBytes) = true := hsz0
  have hval : ∀ (j : Nat) t v, Try.f8.params[j]? = some t → args[j]? = some v → Value.okWide Try.prog W .any base t v := hval0
  have hW' := hW
  obtain ⟨p, q, hA0, hV, rfl, hfz, hnd⟩ := hW
  have hA : DataW.TrodAll enc Try.prog W 0 (fun _ => true) true Try.f8.params.toList args.toList ds p := hA0
  rw [Try.params8] at hA hval hsz
  obtain ⟨v0, vs0, d0, ds0, p0, q0, hargs, rfl, rfl, h0, r_0⟩ := trodAll_cons hA
  obtain ⟨v1, vs1, d1, ds1, p1, q1, rfl, rfl, rfl, h1, r_1⟩ := trodAll_cons r_0
  obtain ⟨rfl, rfl, rfl⟩ := trodAll_nil r_1
  obtain rfl : args = #[v0, v1] := by cases args; simp_all
  obtain ⟨rfl, rfl⟩ := trodVars_none hV
  have k0 := h0
  have lt0 : ∀ x ∈ p0, x.block < W.heap.size := by obtain ⟨m, hm⟩ := k0; exact DataW.trod_lt m _ _ _ hm
  have k1 := h1
  have lt1 : ∀ x ∈ p1, x.block < W.heap.size := by obtain ⟨m, hm⟩ := k1; exact DataW.trod_lt m _ _ _ hm
  obtain ⟨cs0, ys0, rfl, hl0, hd0, hz0⟩ := open_mixed [.str, .int .u64, .int .u8, .str] Try.underlying24 rfl (fun i f k hi hk => by match i, hi, hk with | 0, hi, hk => (cases hi; cases hk; exact ⟨rfl, Try.underlying9, by kernel_rfl⟩) | 1, hi, hk => (cases hi; cases hk; exact ⟨rfl, Try.underlying22, by kernel_rfl⟩) | 2, hi, hk => (cases hi; cases hk; exact ⟨rfl, Try.underlying5, by kernel_rfl⟩) | 3, hi, hk => (cases hi; cases hk; exact ⟨rfl, Try.underlying9, by kernel_rfl⟩) | i + 4, hi, hk => simp at hk) (by kernel_rfl) (okWide_struct Try.underlying24 (hval 0 24 v0 rfl rfl)) h0
  obtain ⟨_, y0_0, c0_0, b0_0, ⟨s0_0, rfl, m0_0⟩, g0_0⟩ := hz0 0 .str rfl
  obtain ⟨_, y0_3, c0_3, b0_3, ⟨s0_3, rfl, m0_3⟩, g0_3⟩ := hz0 3 .str rfl
  obtain ⟨_, y0_1, c0_1, b0_1, ⟨a0_1, rfl, w0_1⟩, -⟩ := hz0 1 (.int .u64) rfl
  obtain ⟨n0_1, rfl, u0_1⟩ := nat_of_wf w0_1 (by decide)
  obtain ⟨_, y0_2, c0_2, b0_2, ⟨a0_2, rfl, w0_2⟩, -⟩ := hz0 2 (.int .u8) rfl
  obtain ⟨n0_2, rfl, u0_2⟩ := nat_of_wf w0_2 (by decide)
  obtain rfl := list4 hl0 c0_0 c0_1 c0_2 c0_3
  have z0_0 : s0_0.size ≤ 140737488351232 := by
    subst hd0
    have hz := sized_string (sized_parts' hsz (j := 0) (t := 24) rfl rfl Try.underlying24) (j := 0) (t := 9) (bytes := s0_0.data.toList) rfl (by rw [b0_0, g0_0 _ rfl])
    have e : s0_0.data.toList.length = s0_0.size := rfl
    have hr : reachBytes = 140737488351232 := by decide
    omega
  have z0_3 : s0_3.size ≤ 140737488351232 := by
    subst hd0
    have hz := sized_string (sized_parts' hsz (j := 0) (t := 24) rfl rfl Try.underlying24) (j := 3) (t := 9) (bytes := s0_3.data.toList) rfl (by rw [b0_3, g0_3 _ rfl])
    have e : s0_3.data.toList.length = s0_3.size := rfl
    have hr : reachBytes = 140737488351232 := by decide
    omega
  obtain ⟨cs1, ys1, rfl, hl1, hd1, hz1⟩ := open_mixed [.str, .int .u64, .int .u8, .str] Try.underlying24 rfl (fun i f k hi hk => by match i, hi, hk with | 0, hi, hk => (cases hi; cases hk; exact ⟨rfl, Try.underlying9, by kernel_rfl⟩) | 1, hi, hk => (cases hi; cases hk; exact ⟨rfl, Try.underlying22, by kernel_rfl⟩) | 2, hi, hk => (cases hi; cases hk; exact ⟨rfl, Try.underlying5, by kernel_rfl⟩) | 3, hi, hk => (cases hi; cases hk; exact ⟨rfl, Try.underlying9, by kernel_rfl⟩) | i + 4, hi, hk => simp at hk) (by kernel_rfl) (okWide_struct Try.underlying24 (hval 1 24 v1 rfl rfl)) h1
  obtain ⟨_, y1_0, c1_0, b1_0, ⟨s1_0, rfl, m1_0⟩, g1_0⟩ := hz1 0 .str rfl
  obtain ⟨_, y1_3, c1_3, b1_3, ⟨s1_3, rfl, m1_3⟩, g1_3⟩ := hz1 3 .str rfl
  obtain ⟨_, y1_1, c1_1, b1_1, ⟨a1_1, rfl, w1_1⟩, -⟩ := hz1 1 (.int .u64) rfl
  obtain ⟨n1_1, rfl, u1_1⟩ := nat_of_wf w1_1 (by decide)
  obtain ⟨_, y1_2, c1_2, b1_2, ⟨a1_2, rfl, w1_2⟩, -⟩ := hz1 2 (.int .u8) rfl
  obtain ⟨n1_2, rfl, u1_2⟩ := nat_of_wf w1_2 (by decide)
  obtain rfl := list4 hl1 c1_0 c1_1 c1_2 c1_3
  have z1_0 : s1_0.size ≤ 140737488351232 := by
    subst hd1
    have hz := sized_string (sized_parts' hsz (j := 1) (t := 24) rfl rfl Try.underlying24) (j := 0) (t := 9) (bytes := s1_0.data.toList) rfl (by rw [b1_0, g1_0 _ rfl])
    have e : s1_0.data.toList.length = s1_0.size := rfl
    have hr : reachBytes = 140737488351232 := by decide
    omega
  have z1_3 : s1_3.size ≤ 140737488351232 := by
    subst hd1
    have hz := sized_string (sized_parts' hsz (j := 1) (t := 24) rfl rfl Try.underlying24) (j := 3) (t := 9) (bytes := s1_3.data.toList) rfl (by rw [b1_3, g1_3 _ rfl])
    have e : s1_3.data.toList.length = s1_3.size := rfl
    have hr : reachBytes = 140737488351232 := by decide
    omega
  clear hA0 hval0
  refine ((back8_any ikeyC) W ⟨s0_0, n0_1, n0_2, s0_3⟩ ⟨s1_0, n1_1, n1_2, s1_3⟩ ⟨(show n0_1 < 18446744073709551616 from by have h : (n0_1 : Int) ≤ 18446744073709551615 := u0_1; omega), (show n0_2 < 256 from by have h : (n0_2 : Int) ≤ 255 := u0_2; omega), z0_0, z0_3⟩ ⟨(show n1_1 < 18446744073709551616 from by have h : (n1_1 : Int) ≤ 18446744073709551615 := u1_1; omega), (show n1_2 < 256 from by have h : (n1_2 : Int) ≤ 255 := u1_2; omega), z1_0, z1_3⟩).mono fun e W' ⟨he, hfr⟩ => ?_
  have bel := hfr.nonBelow
  subst he
  exact ⟨_, rfl, _, _, _, [], _, [], hW', trodAll_mk1 (shut_bool Try.underlying4 _), (trodAll_cons_mk (Below.trod laidOut (by kernel_rfl) (of_decide_eq_true (by kernel_rfl)) k0 bel lt0) (trodAll_cons_mk (Below.trod laidOut (by kernel_rfl) (of_decide_eq_true (by kernel_rfl)) k1 bel lt1) trodAll_mk0)), rfl, bel.frame _, fun h => by cases h⟩

theorem over : Rows.ikeyBackRow.holds Try.pinned (OpenSpec.ofChange Rows.ikeyBackSpec) :=
  OpenClaim.holds_of_wide 8 Try.f8 rfl rfl rfl rfl rfl rfl rfl ⟨rfl, rfl, rfl, rfl, rfl⟩ rfl rfl rfl rfl rfl (by kernel_rfl) Try.func8 (by kernel_rfl)
    (of_decide_eq_true (by kernel_rfl)) (by unfold Func.isWrapper; first | (rw [if_pos (by decide +kernel)]; kernel_rfl) | (rw [if_neg (by decide +kernel)]; exact ⟨rfl, rfl⟩))
    (fun os started H enc _ => lifted os started H enc)

theorem proved : Rows.IkeyBackSaid := over
end Go.Proofs.Yteokfgdennjjiaa.ikeyBack
