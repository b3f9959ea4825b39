/- layer 7: names, and what texts are names of -/
import Derived.Test.YtpmkcjgndljhgaaDoorLaw07A
import Derived.Test.YtpmkcjgndljhgaaDoorNameRefB
namespace Go.Proofs.YtpmkcjgndljhgaaDoor
open Go.ChangeShapes Go.WideShapes Go.ChangeAt Go.RowKit

/-- P7.1 -/
theorem names7_any {T : World → Prop} (C : NameC T) (W : World) (kind n : Nat) (hT : T W) (hk : (kind : Int) ≤ 255) (hn : (n : Int) ≤ 18446744073709551615) :
    Calls Tryd.prog 3 #[.int .u8 kind, .int .u64 n] W fun e W' => e = .returned (.bool true) ∧ Fr Non W W' := by
  have HN := Lib.hid (And.intro hk hn)
  have HT := Lib.hid hT
  clear hk hn hT
  go_enter Tryd.func3, Tryd.ntmps3
  go_wp2_with fail
  refine (shown7_any C _ HT.out).mono ?_
  rintro e w1 ⟨rfl, hf1⟩
  have F1 := Lib.hid hf1
  clear hf1
  go_wp2_with fail
  refine (C.name kind n _ (by have := HN.out.1; omega) (by have := HN.out.2; omega) (C.tf HT.out F1.out)).mono ?_
  rintro e w2 ⟨rfl, hf2⟩
  have F2 := Lib.hid (F1.out.non hf2)
  clear hf2 F1
  obtain ⟨D, hD⟩ : ∃ D : ByteArray, D = ⟨(nmName kind n).toArray⟩ := ⟨_, rfl⟩
  rw [← hD]
  have HD := Lib.hid hD
  clear hD
  go_wp2_with fail
  refine (refName_any kind n _ (by have := HN.out.1; omega) (by have := HN.out.2; omega)).mono ?_
  rintro e w3 ⟨rfl, hf3⟩
  rw [← HD.out]
  have F3 := Lib.hid (F2.out.non hf3)
  clear hf3 F2
  go_wp2_with fail
  go_ret
  exact ⟨rfl, F3.out⟩

/-- P7.2 -/
theorem parses7_any {T : World → Prop} (C : NameC T) (W : World) (s : ByteArray) (hT : T W) (hs : s.size ≤ 140737488351232) :
    Calls Tryd.prog 4 #[.string s] W fun e W' => e = .returned (.bool true) ∧ Fr Non W W' := by
  have HT := Lib.hid hT
  clear hT
  go_enter Tryd.func4, Tryd.ntmps4
  go_wp2_with fail
  refine (shown7_any C _ HT.out).mono ?_
  rintro e w1 ⟨rfl, hf1⟩
  have F1 := Lib.hid hf1
  clear hf1
  go_wp2_with fail
  · go_ret
    exact ⟨rfl, F1.out⟩
  · refine (C.parse s _ (by omega) (C.tf HT.out F1.out)).mono ?_
    rintro e w2 ⟨⟨k2, n2, b2, rfl, hp2⟩, hf2⟩
    have F2 := Lib.hid (F1.out.non hf2)
    have H2 := Lib.hid hp2
    clear hf2 F1 hp2
    go_wp2_with fail
    refine (refParse_any s _ (by omega)).mono ?_
    rintro e w3 ⟨⟨k3, n3, b3, rfl, hp3⟩, hf3⟩
    obtain ⟨rfl, rfl, rfl⟩ := H2.out.once hp3
    have F3 := Lib.hid (F2.out.non hf3)
    clear hf3 F2 hp3 H2
    go_wp2_with fail
    go_ret
    exact ⟨rfl, F3.out⟩
end Go.Proofs.YtpmkcjgndljhgaaDoor
