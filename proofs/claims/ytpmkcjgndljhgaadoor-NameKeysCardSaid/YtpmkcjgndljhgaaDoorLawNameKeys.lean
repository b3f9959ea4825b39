/- NameKeys: whatever the input, the law returns true and the input reads as it did. -/
import Derived.Test.YtpmkcjgndljhgaaDoorLaw07F
import Derived.Test.YtpmkcjgndljhgaaDoorNameOpZ
import Derived.Test.YtpmkcjgndljhgaaDoorShell
import Derived.Test.YtpmkcjgndljhgaaDoorLaid
import Derived.Test.YtpmkcjgndljhgaaDoorTie
import Derived.Test.YtpmkcjgndljhgaaDoorCards
import Derived.SevenTiedAt
import Derived.Stop.Joined
import Derived.LaidMore
import Derived.OpenShut
import Derived.Test.YtpmkcjgndljhgaaDoorArr
import Derived.Test.YtpmkcjgndljhgaaDoorArrH

namespace Go.Proofs.YtpmkcjgndljhgaaDoor.nameKeys
open Go.ChangeShapes Go.WideShapes Go.ChangeAt Go.RowKit
open Go.ChangeMaps (open_string shut_string)
set_option linter.unusedVariables false

theorem door_met (os : Os) (args : Array Value) : laidMetH Tryd.prog Rows.nameKeysRow.laid ((World.doorLaid Tryd.prog 400 os).forCall (fun _ _ => 0) ⟨#[], args, []⟩).memory :=
  laidMetH_of_parts3 (fuel := 8) (laidMet_of_run' 8 (by kernel_rfl) (by kernel_rfl)) (by kernel_rfl) (by kernel_rfl)

set_option maxRecDepth 100000 in
theorem lifted (os : Os) (started : os.Started) (H : Type) (enc : TypeId × Value → H) :
    ReturnsInHanded {} Tryd.checked os 8 .any (fun w args => (Rows.nameKeysSpec.pre enc Tryd.prog Tryd.f8 [] false w args ∧ laidMetH Tryd.prog Rows.nameKeysRow.laid w) ∧ sizedMet enc Tryd.prog Tryd.f8 (OpenSpec.ofChange Rows.nameKeysSpec) false w args) (Rows.nameKeysSpec.post enc Tryd.prog Tryd.f8 false true false false) := by
  refine returnsInHanded_of_change_and (C := Tryd.checked) (X := fun w _ => laidMetH Tryd.prog Rows.nameKeysRow.laid w) (fun _ _ _ hh h => h.of_heap hh) ownKn started (by kernel_rfl) Tryd.func8
    (ChangeSpec.witness_shaped (enc := enc) (C := Tryd.checked) (os := os) (X := fun w _ => laidMetH Tryd.prog Rows.nameKeysRow.laid w) false (World.doorLaid Tryd.prog 400 os) #[.agg (bs (List.replicate 32 0)).toArray, .agg #[.int .u8 0, .int .u8 0, .int .u64 0, .int .u64 0, .int .u64 0], .int .u64 0] 8 rfl (World.shaped_of_RefB (by kernel_rfl) (by kernel_rfl)) (by kernel_rfl) (by kernel_rfl) (by kernel_rfl) (door_met os _)) ?_
  intro W base args ds gs before hval0 hW _ hsz0 hL _
  have hsz : (DataW.weightsEach Tryd.prog (Tryd.f8.params.toList ++ Rows.nameKeysSpec.plain.varTypes Tryd.prog) (ds ++ gs)).all (· ≤ reachBytes) = true := hsz0
  have hval : ∀ (j : Nat) t v, Tryd.f8.params[j]? = some t → args[j]? = some v → Value.okWide Tryd.prog W .any base t v := hval0
  have hW' := hW
  obtain ⟨p, q, hA0, hV, rfl, hfz, hnd⟩ := hW
  have hA : DataW.TrodAll enc Tryd.prog W 0 (fun _ => true) true Tryd.f8.params.toList args.toList ds p := hA0
  rw [Tryd.params8] at hA hval hsz
  obtain ⟨v0, vs0, d0, ds0, p0, q0, hargs, rfl, rfl, h0, r_0⟩ := trodAll_cons hA
  obtain ⟨v1, vs1, d1, ds1, p1, q1, rfl, rfl, rfl, h1, r_1⟩ := trodAll_cons r_0
  obtain ⟨v2, vs2, d2, ds2, p2, q2, rfl, rfl, rfl, h2, r_2⟩ := trodAll_cons r_1
  obtain ⟨rfl, rfl, rfl⟩ := trodAll_nil r_2
  obtain rfl : args = #[v0, v1, v2] := by cases args; simp_all
  obtain ⟨rfl, rfl⟩ := trodVars_none hV
  have k0 := h0
  have lt0 : ∀ x ∈ p0, x.block < W.heap.size := by obtain ⟨m, hm⟩ := k0; exact DataW.trod_lt m _ _ _ hm
  have k1 := h1
  have lt1 : ∀ x ∈ p1, x.block < W.heap.size := by obtain ⟨m, hm⟩ := k1; exact DataW.trod_lt m _ _ _ hm
  have k2 := h2
  have lt2 : ∀ x ∈ p2, x.block < W.heap.size := by obtain ⟨m, hm⟩ := k2; exact DataW.trod_lt m _ _ _ hm
  obtain ⟨l0, rfl, r0⟩ := open_arrBytes Tryd.underlying42 Tryd.underlying5 (by kernel_rfl) (okWide_array Tryd.underlying42 (hval 0 42 v0 rfl rfl)) (by kernel_rfl) h0
  obtain ⟨cs1, rfl, hl1, hz1⟩ := open_flat [.u8, .u8, .u64, .u64, .u64] Tryd.underlying32 rfl (fun i f k hi hk => by match i, hi, hk with | 0, hi, hk => (cases hi; cases hk; exact ⟨rfl, Tryd.underlying5, by kernel_rfl⟩) | 1, hi, hk => (cases hi; cases hk; exact ⟨rfl, Tryd.underlying5, by kernel_rfl⟩) | 2, hi, hk => (cases hi; cases hk; exact ⟨rfl, Tryd.underlying22, by kernel_rfl⟩) | 3, hi, hk => (cases hi; cases hk; exact ⟨rfl, Tryd.underlying22, by kernel_rfl⟩) | 4, hi, hk => (cases hi; cases hk; exact ⟨rfl, Tryd.underlying22, by kernel_rfl⟩) | i + 5, hi, hk => simp at hk) (by kernel_rfl) (okWide_struct Tryd.underlying32 (hval 1 32 v1 rfl rfl)) h1
  obtain ⟨a1_0, e1_0, w1_0⟩ := hz1 0 .u8 rfl
  obtain ⟨n1_0, rfl, u1_0⟩ := nat_of_wf w1_0 (by decide)
  obtain ⟨a1_1, e1_1, w1_1⟩ := hz1 1 .u8 rfl
  obtain ⟨n1_1, rfl, u1_1⟩ := nat_of_wf w1_1 (by decide)
  obtain ⟨a1_2, e1_2, w1_2⟩ := hz1 2 .u64 rfl
  obtain ⟨n1_2, rfl, u1_2⟩ := nat_of_wf w1_2 (by decide)
  obtain ⟨a1_3, e1_3, w1_3⟩ := hz1 3 .u64 rfl
  obtain ⟨n1_3, rfl, u1_3⟩ := nat_of_wf w1_3 (by decide)
  obtain ⟨a1_4, e1_4, w1_4⟩ := hz1 4 .u64 rfl
  obtain ⟨n1_4, rfl, u1_4⟩ := nat_of_wf w1_4 (by decide)
  obtain rfl := list5 hl1 e1_0 e1_1 e1_2 e1_3 e1_4
  obtain ⟨a2, rfl, rfl, rfl, w2⟩ := open_int Tryd.underlying22 (hval 2 22 v2 rfl rfl) h2
  obtain ⟨n2, rfl, u2⟩ := nat_of_wf w2 (by decide)
  clear hA0 hval0
  refine ((keys7_any nameC) W l0 ⟨n1_0, n1_1, n1_2, n1_3, n1_4⟩ n2 hL r0 ⟨(show n1_0 < 256 from by have h : (n1_0 : Int) ≤ 255 := u1_0; omega), (show n1_1 < 256 from by have h : (n1_1 : Int) ≤ 255 := u1_1; omega), (show n1_2 < 18446744073709551616 from by have h : (n1_2 : Int) ≤ 18446744073709551615 := u1_2; omega), (show n1_3 < 18446744073709551616 from by have h : (n1_3 : Int) ≤ 18446744073709551615 := u1_3; omega), (show n1_4 < 18446744073709551616 from by have h : (n1_4 : Int) ≤ 18446744073709551615 := u1_4; omega)⟩ u2).mono fun e W' ⟨he, hfr⟩ => ?_
  have bel := hfr.nonBelow
  subst he
  exact ⟨_, rfl, _, _, _, [], _, [], hW', trodAll_mk1 (shut_bool Tryd.underlying4 _), (trodAll_cons_mk (Below.trod laidOut (by kernel_rfl) (of_decide_eq_true (by kernel_rfl)) k0 bel lt0) (trodAll_cons_mk (Below.trod laidOut (by kernel_rfl) (of_decide_eq_true (by kernel_rfl)) k1 bel lt1) (trodAll_cons_mk (Below.trod laidOut (by kernel_rfl) (of_decide_eq_true (by kernel_rfl)) k2 bel lt2) trodAll_mk0))), rfl, bel.frame _, fun h => by cases h⟩

theorem over : Rows.nameKeysRow.holds Tryd.pinned (OpenSpec.ofChange Rows.nameKeysSpec) :=
  OpenClaim.holds_of_wide 8 Tryd.f8 rfl rfl rfl rfl rfl rfl rfl ⟨rfl, rfl, rfl, rfl, rfl⟩ rfl rfl rfl rfl rfl (by kernel_rfl) Tryd.func8 (by kernel_rfl)
    (of_decide_eq_true (by kernel_rfl)) (by unfold Func.isWrapper; first | (rw [if_pos (by decide +kernel)]; kernel_rfl) | (rw [if_neg (by decide +kernel)]; exact ⟨rfl, rfl⟩))
    (fun os started H enc _ => lifted os started H enc)

theorem proved : Rows.NameKeysSaid := over

theorem carded : Rows.NameKeysCardSaid :=
  Claim7.holds_tied_plain_at .later [] [.data, .data, .data, .data, .data, .data] true (true, "0c8e0dcf0096d9f12749273186f3b9c6a1f4f12de1c509cce9ecd22ca43d7e8d") false
    proved (fun _ h => by cases h) (by kernel_rfl) (fun _ h => by cases h) nameKeys_row_tie rfl ⟨rfl, rfl⟩ (by kernel_rfl) rfl
    (fun f fn hf hfn => by
      obtain rfl : f = 8 := Option.some.inj ((show Tryd.prog.funcNamed "tantalus/tantaluslaw07.NameKeys" = some 8 by kernel_rfl).symm.trans hf) |>.symm
      obtain rfl : fn = Tryd.f8 := (Option.some.inj (Tryd.func8.symm.trans hfn)).symm
      exact ⟨by kernel_rfl, fun j t ht => by
        rw [Tryd.params8] at ht
        have hm : t ∈ [42, 32, 22] := by simpa using Array.mem_of_getElem? ht
        have hall : ([42, 32, 22].all fun u => !Tryd.prog.wantsStandIn u) = true := by kernel_rfl
        exact (show Tryd.prog.wantsStandIn t = false by simpa using List.all_eq_true.1 hall t hm)⟩)
    (by kernel_rfl)
end Go.Proofs.YtpmkcjgndljhgaaDoor.nameKeys
