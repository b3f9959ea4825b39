/- layer 7: unlike places have unlike nonces -/
import Derived.Test.YtpmkcjgndljhgaaDoorLaw07A
import Derived.Stop.BytesEq
namespace Go.Proofs.YtpmkcjgndljhgaaDoor
open Go.ChangeShapes Go.WideShapes Go.ChangeAt Go.RowKit

/-- P7.6 -/
theorem nonces7_any {T : World → Prop} (C : NameC T) (W : World) (a b : Nat) (hT : T W) (ha : (a : Int) ≤ 18446744073709551615) (hb : (b : Int) ≤ 18446744073709551615) :
    Calls Tryd.prog 9 #[.int .u64 a, .int .u64 b] W fun e W' => e = .returned (.bool true) ∧ Fr Non W W' := by
  have HN := Lib.hid (nonceOf_once (a := a) (b := b) (by omega) (by omega))
  have HA := Lib.hid ha
  have HB := Lib.hid hb
  have HTT := Lib.hid hT
  clear ha hb hT
  go_enter Tryd.func9, Tryd.ntmps9
  go_wp2_with fail
  refine (shown7_any C _ HTT.out).mono ?_
  rintro e w1 ⟨rfl, hf1⟩
  have F1 := Lib.hid hf1
  clear hf1
  go_wp2_with fail
  refine (C.nonce a _ (by have := HA.out; omega)).mono ?_
  rintro e w2 ⟨rfl, hf2⟩
  have F2 := Lib.hid (F1.out.non hf2)
  have hl1 := nonceOf_length a
  have hl2 := nonceOf_length b
  generalize nonceOf a = x at hl1 HN ⊢
  have HL1 := Lib.hid hl1
  have HL2 := Lib.hid hl2
  clear hf2 F1 hl1 hl2
  go_wp2_with fail
  refine (C.nonce b _ (by have := HB.out; omega)).mono ?_
  rintro e w3 ⟨rfl, hf3⟩
  have F3 := Lib.hid (F2.out.non hf3)
  have HL2 := HL2.out
  generalize nonceOf b = y at HL2 HN ⊢
  clear hf3 F2
  have heq : ∀ w, (binOp .eql 47 (.agg (bs x).toArray) (.agg (bs y).toArray)).run Tryd.prog w = .ok (.bool (x == y)) w := fun w => run_eql_bytes (P := Tryd.prog) w 47 5 12 Tryd.underlying47 Tryd.underlying5 (fun w => run_size1 w (by kernel_rfl)) x y HL1.out HL2
  by_cases hab : a = b
  · have hxy : (x == y) = true := by rw [HN.out.mpr hab]; simp
    subst hab
    rw [hxy] at heq
    clear hxy
    go_wp2_with fail
    go_ret
    exact ⟨rfl, F3.out⟩
  · have hxy : (x == y) = false := by simpa using fun h => hab (HN.out.mp h)
    have hi : ((a : Int) == (b : Int)) = false := by simp; omega
    rw [hxy] at heq
    go_wp2_with fail
    go_ret
    exact ⟨rfl, F3.out⟩
end Go.Proofs.YtpmkcjgndljhgaaDoor
