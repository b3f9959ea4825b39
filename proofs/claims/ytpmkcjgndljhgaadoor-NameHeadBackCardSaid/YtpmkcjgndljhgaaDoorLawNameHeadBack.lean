/- NameHeadBack: whatever the input, the law returns true and the input reads as it did. -/
import Derived.Test.YtpmkcjgndljhgaaDoorLaw07E
import Derived.Test.YtpmkcjgndljhgaaDoorNameOpZ
import Derived.Test.YtpmkcjgndljhgaaDoorShell
import Derived.Test.YtpmkcjgndljhgaaDoorLaid
import Derived.Test.YtpmkcjgndljhgaaDoorTie
import Derived.Test.YtpmkcjgndljhgaaDoorCards
import Derived.SevenTiedAt
import Derived.Stop.Joined
import Derived.LaidMore
import Derived.OpenShut
import Derived.Test.YtpmkcjgndljhgaaDoorArrH
namespace Go.Proofs.YtpmkcjgndljhgaaDoor.nameHeadBack
open Go.ChangeShapes Go.WideShapes Go.ChangeAt Go.RowKit
open Go.ChangeMaps (open_string shut_string)
set_option linter.unusedVariables false

theorem door_met (os : Os) (args : Array Value) : laidMetH Tryd.prog Rows.nameHeadBackRow.laid ((World.doorLaid Tryd.prog 400 os).forCall (fun _ _ => 0) ⟨#[], args, []⟩).memory :=
  laidMetH_of_parts3 (fuel := 8) (laidMet_of_run' 8 (by kernel_rfl) (by kernel_rfl)) (by kernel_rfl) (by kernel_rfl)

set_option maxRecDepth 100000 in
theorem lifted (os : Os) (started : os.Started) (H : Type) (enc : TypeId × Value → H) :
    ReturnsInHanded {} Tryd.checked os 7 .any (fun w args => (Rows.nameHeadBackSpec.pre enc Tryd.prog Tryd.f7 [] false w args ∧ laidMetH Tryd.prog Rows.nameHeadBackRow.laid w) ∧ sizedMet enc Tryd.prog Tryd.f7 (OpenSpec.ofChange Rows.nameHeadBackSpec) false w args) (Rows.nameHeadBackSpec.post enc Tryd.prog Tryd.f7 false true false false) := by
  refine returnsInHanded_of_change_and (C := Tryd.checked) (X := fun w _ => laidMetH Tryd.prog Rows.nameHeadBackRow.laid w) (fun _ _ _ hh h => h.of_heap hh) ownKn started (by kernel_rfl) Tryd.func7
    (ChangeSpec.witness_shaped (enc := enc) (C := Tryd.checked) (os := os) (X := fun w _ => laidMetH Tryd.prog Rows.nameHeadBackRow.laid w) false (World.doorLaid Tryd.prog 400 os) #[.agg #[.int .u8 0, .int .u8 0, .int .u64 0, .int .u64 0, .int .u64 0], .agg #[.int .u8 0, .int .u8 0, .int .u64 0, .int .u64 0, .int .u64 0], .slice none 0 0] 8 rfl (World.shaped_of_RefB (by kernel_rfl) (by kernel_rfl)) (by kernel_rfl) (by kernel_rfl) (by kernel_rfl) (door_met os _)) ?_
  intro W base args ds gs before hval0 hW _ hsz0 hL _
  have hsz : (DataW.weightsEach Tryd.prog (Tryd.f7.params.toList ++ Rows.nameHeadBackSpec.plain.varTypes Tryd.prog) (ds ++ gs)).all (· ≤ reachBytes) = true := hsz0
  have hval : ∀ (j : Nat) t v, Tryd.f7.params[j]? = some t → args[j]? = some v → Value.okWide Tryd.prog W .any base t v := hval0
  have hW' := hW
  obtain ⟨p, q, hA0, hV, rfl, hfz, hnd⟩ := hW
  have hA : DataW.TrodAll enc Tryd.prog W 0 (fun _ => true) true Tryd.f7.params.toList args.toList ds p := hA0
  rw [Tryd.params7] at hA hval hsz
  obtain ⟨v0, vs0, d0, ds0, p0, q0, hargs, rfl, rfl, h0, r_0⟩ := trodAll_cons hA
  obtain ⟨v1, vs1, d1, ds1, p1, q1, rfl, rfl, rfl, h1, r_1⟩ := trodAll_cons r_0
  obtain ⟨v2, vs2, d2, ds2, p2, q2, rfl, rfl, rfl, h2, r_2⟩ := trodAll_cons r_1
  obtain ⟨rfl, rfl, rfl⟩ := trodAll_nil r_2
  obtain rfl : args = #[v0, v1, v2] := by cases args; simp_all
  obtain ⟨rfl, rfl⟩ := trodVars_none hV
  have k0 := h0
  have lt0 : ∀ x ∈ p0, x.block < W.heap.size := by obtain ⟨m, hm⟩ := k0; exact DataW.trod_lt m _ _ _ hm
  have k1 := h1
  have lt1 : ∀ x ∈ p1, x.block < W.heap.size := by obtain ⟨m, hm⟩ := k1; exact DataW.trod_lt m _ _ _ hm
  have k2 := h2
  have lt2 : ∀ x ∈ p2, x.block < W.heap.size := by obtain ⟨m, hm⟩ := k2; exact DataW.trod_lt m _ _ _ hm
  obtain ⟨cs0, rfl, hl0, hz0⟩ := open_flat [.u8, .u8, .u64, .u64, .u64] Tryd.underlying32 rfl (fun i f k hi hk => by match i, hi, hk with | 0, hi, hk => (cases hi; cases hk; exact ⟨rfl, Tryd.underlying5, by kernel_rfl⟩) | 1, hi, hk => (cases hi; cases hk; exact ⟨rfl, Tryd.underlying5, by kernel_rfl⟩) | 2, hi, hk => (cases hi; cases hk; exact ⟨rfl, Tryd.underlying22, by kernel_rfl⟩) | 3, hi, hk => (cases hi; cases hk; exact ⟨rfl, Tryd.underlying22, by kernel_rfl⟩) | 4, hi, hk => (cases hi; cases hk; exact ⟨rfl, Tryd.underlying22, by kernel_rfl⟩) | i + 5, hi, hk => simp at hk) (by kernel_rfl) (okWide_struct Tryd.underlying32 (hval 0 32 v0 rfl rfl)) h0
  obtain ⟨a0_0, e0_0, w0_0⟩ := hz0 0 .u8 rfl
  obtain ⟨n0_0, rfl, u0_0⟩ := nat_of_wf w0_0 (by decide)
  obtain ⟨a0_1, e0_1, w0_1⟩ := hz0 1 .u8 rfl
  obtain ⟨n0_1, rfl, u0_1⟩ := nat_of_wf w0_1 (by decide)
  obtain ⟨a0_2, e0_2, w0_2⟩ := hz0 2 .u64 rfl
  obtain ⟨n0_2, rfl, u0_2⟩ := nat_of_wf w0_2 (by decide)
  obtain ⟨a0_3, e0_3, w0_3⟩ := hz0 3 .u64 rfl
  obtain ⟨n0_3, rfl, u0_3⟩ := nat_of_wf w0_3 (by decide)
  obtain ⟨a0_4, e0_4, w0_4⟩ := hz0 4 .u64 rfl
  obtain ⟨n0_4, rfl, u0_4⟩ := nat_of_wf w0_4 (by decide)
  obtain rfl := list5 hl0 e0_0 e0_1 e0_2 e0_3 e0_4
  obtain ⟨cs1, rfl, hl1, hz1⟩ := open_flat [.u8, .u8, .u64, .u64, .u64] Tryd.underlying32 rfl (fun i f k hi hk => by match i, hi, hk with | 0, hi, hk => (cases hi; cases hk; exact ⟨rfl, Tryd.underlying5, by kernel_rfl⟩) | 1, hi, hk => (cases hi; cases hk; exact ⟨rfl, Tryd.underlying5, by kernel_rfl⟩) | 2, hi, hk => (cases hi; cases hk; exact ⟨rfl, Tryd.underlying22, by kernel_rfl⟩) | 3, hi, hk => (cases hi; cases hk; exact ⟨rfl, Tryd.underlying22, by kernel_rfl⟩) | 4, hi, hk => (cases hi; cases hk; exact ⟨rfl, Tryd.underlying22, by kernel_rfl⟩) | i + 5, hi, hk => simp at hk) (by kernel_rfl) (okWide_struct Tryd.underlying32 (hval 1 32 v1 rfl rfl)) h1
  obtain ⟨a1_0, e1_0, w1_0⟩ := hz1 0 .u8 rfl
  obtain ⟨n1_0, rfl, u1_0⟩ := nat_of_wf w1_0 (by decide)
  obtain ⟨a1_1, e1_1, w1_1⟩ := hz1 1 .u8 rfl
  obtain ⟨n1_1, rfl, u1_1⟩ := nat_of_wf w1_1 (by decide)
  obtain ⟨a1_2, e1_2, w1_2⟩ := hz1 2 .u64 rfl
  obtain ⟨n1_2, rfl, u1_2⟩ := nat_of_wf w1_2 (by decide)
  obtain ⟨a1_3, e1_3, w1_3⟩ := hz1 3 .u64 rfl
  obtain ⟨n1_3, rfl, u1_3⟩ := nat_of_wf w1_3 (by decide)
  obtain ⟨a1_4, e1_4, w1_4⟩ := hz1 4 .u64 rfl
  obtain ⟨n1_4, rfl, u1_4⟩ := nat_of_wf w1_4 (by decide)
  obtain rfl := list5 hl1 e1_0 e1_1 e1_2 e1_3 e1_4
  obtain ⟨l2, r2, e2⟩ := open_rowBytes Tryd.underlying33 Tryd.underlying5 (by kernel_rfl) (okWide_slice Tryd.underlying33 (hval 2 33 v2 rfl rfl)) h2
  have ee2 : (d2 = .nil ∧ l2.length = 0) ∨ ∃ elems spare, d2 = .slice elems spare ∧ elems.length = l2.length := e2.imp (fun h => ⟨h.1, by rw [h.2]; rfl⟩) id
  have z2 := cap_of_sized hsz (j := 2) (t := 33) (e := 5) rfl rfl Tryd.underlying33 ee2
  rw [show Tryd.prog.bytesOf 5 = 1 from by kernel_rfl] at z2
  clear hA0 hval0
  refine ((headback7_any nameC) W ⟨n0_0, n0_1, n0_2, n0_3, n0_4⟩ ⟨n1_0, n1_1, n1_2, n1_3, n1_4⟩ v2 l2 (by obtain ⟨ps, h, -⟩ := hL; exact pow_of h) ⟨(show n0_0 < 256 from by have h : (n0_0 : Int) ≤ 255 := u0_0; omega), (show n0_1 < 256 from by have h : (n0_1 : Int) ≤ 255 := u0_1; omega), (show n0_2 < 18446744073709551616 from by have h : (n0_2 : Int) ≤ 18446744073709551615 := u0_2; omega), (show n0_3 < 18446744073709551616 from by have h : (n0_3 : Int) ≤ 18446744073709551615 := u0_3; omega), (show n0_4 < 18446744073709551616 from by have h : (n0_4 : Int) ≤ 18446744073709551615 := u0_4; omega)⟩ ⟨(show n1_0 < 256 from by have h : (n1_0 : Int) ≤ 255 := u1_0; omega), (show n1_1 < 256 from by have h : (n1_1 : Int) ≤ 255 := u1_1; omega), (show n1_2 < 18446744073709551616 from by have h : (n1_2 : Int) ≤ 18446744073709551615 := u1_2; omega), (show n1_3 < 18446744073709551616 from by have h : (n1_3 : Int) ≤ 18446744073709551615 := u1_3; omega), (show n1_4 < 18446744073709551616 from by have h : (n1_4 : Int) ≤ 18446744073709551615 := u1_4; omega)⟩ r2 (by omega)).mono fun e W' ⟨he, hfr⟩ => ?_
  have bel := hfr.nonBelow
  subst he
  exact ⟨_, rfl, _, _, _, [], _, [], hW', trodAll_mk1 (shut_bool Tryd.underlying4 _), (trodAll_cons_mk (Below.trod laidOut (by kernel_rfl) (of_decide_eq_true (by kernel_rfl)) k0 bel lt0) (trodAll_cons_mk (Below.trod laidOut (by kernel_rfl) (of_decide_eq_true (by kernel_rfl)) k1 bel lt1) (trodAll_cons_mk (Below.trod laidOut (by kernel_rfl) (of_decide_eq_true (by kernel_rfl)) k2 bel lt2) trodAll_mk0))), rfl, bel.frame _, fun h => by cases h⟩

theorem over : Rows.nameHeadBackRow.holds Tryd.pinned (OpenSpec.ofChange Rows.nameHeadBackSpec) :=
  OpenClaim.holds_of_wide 7 Tryd.f7 rfl rfl rfl rfl rfl rfl rfl ⟨rfl, rfl, rfl, rfl, rfl⟩ rfl rfl rfl rfl rfl (by kernel_rfl) Tryd.func7 (by kernel_rfl)
    (of_decide_eq_true (by kernel_rfl)) (by unfold Func.isWrapper; first | (rw [if_pos (by decide +kernel)]; kernel_rfl) | (rw [if_neg (by decide +kernel)]; exact ⟨rfl, rfl⟩))
    (fun os started H enc _ => lifted os started H enc)

theorem proved : Rows.NameHeadBackSaid := over

theorem carded : Rows.NameHeadBackCardSaid :=
  Claim7.holds_tied_plain_at .later [] [.data, .data, .data] true (true, "0c8e0dcf0096d9f12749273186f3b9c6a1f4f12de1c509cce9ecd22ca43d7e8d") false
    proved (fun _ h => by cases h) (by kernel_rfl) (fun _ h => by cases h) nameHeadBack_row_tie rfl ⟨rfl, rfl⟩ (by kernel_rfl) rfl
    (fun f fn hf hfn => by
      obtain rfl : f = 7 := Option.some.inj ((show Tryd.prog.funcNamed "tantalus/tantaluslaw07.NameHeadBack" = some 7 by kernel_rfl).symm.trans hf) |>.symm
      obtain rfl : fn = Tryd.f7 := (Option.some.inj (Tryd.func7.symm.trans hfn)).symm
      exact ⟨by kernel_rfl, fun j t ht => by
        rw [Tryd.params7] at ht
        have hm : t ∈ [32, 32, 33] := by simpa using Array.mem_of_getElem? ht
        have hall : ([32, 32, 33].all fun u => !Tryd.prog.wantsStandIn u) = true := by kernel_rfl
        exact (show Tryd.prog.wantsStandIn t = false by simpa using List.all_eq_true.1 hall t hm)⟩)
    (by kernel_rfl)
end Go.Proofs.YtpmkcjgndljhgaaDoor.nameHeadBack
