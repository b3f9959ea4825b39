/- layer 3: the digest of bytes; a nil state -/
import Derived.Test.YtelagmelnkdheaaDoorShaC
import Derived.Lib.SlBytesConst
namespace Go.Proofs.YtelagmelnkdheaaDoor
open Go.ChangeShapes Go.WideShapes Go.ChangeAt Go.RowKit
variable {T : World → Prop} {SS : (Nat → Prop) → World → Addr → List UInt8 → Prop} {Bl Bm : Nat}

/-- P3.1: the digest of bytes -/
theorem sums3w (C : ShaC T SS Bl Bm) (hshown : ∀ w, T w → Calls Tryd.prog 8 #[] w fun e w' => e = .returned (.bool true) ∧ Fr Non w w')
    (W : World) (v : Value) (l : List UInt8) (hT : T W) (hK : KAt W 1) (hv : Row W v (bs l)) (hl : l.length ≤ 140737488351232) (hb1 : l.length ≤ Bl) (hb2 : l.length ≤ Bm) :
    Calls Tryd.prog 3 #[v] W fun e w' => e = .returned (.bool true) ∧ Fr Non W w' := by
  obtain ⟨i0, hi⟩ := info_parts Tryd.info5
  obtain ⟨a, c, rfl, _⟩ := id hv
  rw [bs_length] at *
  have HT := Lib.hid hT
  have HK := Lib.hid hK
  have HV := Lib.hid hv
  have HC := Lib.hid C
  have HI := Lib.hid hi
  have heq := eqDigest_same l
  have HSH := Lib.hid hshown
  clear hT hv C hshown hK hi
  go_enter Tryd.func3, Tryd.ntmps3
  go_wp2_with fail
  refine (HSH.out _ HT.out).mono ?_
  rintro e w1 ⟨rfl, hf1⟩
  go_wp2_with (at_builtin; refine wpList_appRow _ rfl (.tmp 6) (.tmp 7) 22 rfl w1.heap.size 5 i0 (.int .u8 0) 1 Tryd.underlying22 HI.out rfl _ [] rfl (Own.empty _ _ _ (Nat.le_refl _)) _ (bs l) rfl ?c3 (bs_one l) ?c4 ?c5 ?_)
  case c3 => exact (HV.out.non hf1).non (Fr.alloc _ _)
  case c4 => rw [bs_length]; simp; omega
  case c5 => simp
  intro v2 w2 hown hfr hmv
  have HO : Hid (Own w2 w1.heap.size 5 v2 (bs l)) := hown
  have hf2 : Fr Non w1 w2 := (Fr.alloc _ _).new hfr (fun i hi => by cases hi; exact Nat.le_refl _)
  have hB : Row w2 (.slice a l.length c) (bs l) := (HV.out.non hf1).non hf2
  have HB := Lib.hid hB
  clear hown hfr hmv hB
  go_wp2_with fail
  refine (HC.out.all (ls := [l]) (HC.out.tf HT.out ((hf1.non hf2).non (Fr.alloc _ _))) (Rows2.built (n := 1) (us := [.slice a l.length c]) rfl rfl (by decide) rfl (all1 HB.out)) (by simpa using hb1) (by simpa using hb2)).mono ?_
  rintro e w3 ⟨rfl, hf3⟩
  rw [show [l].flatten = l by simp]
  have hf23 : Fr Non w2 w3 := (Fr.alloc _ _).non hf3
  go_wp2_with fail
  refine (refSum_any v2 l _ (HO.out.row.non hf23) hl (HK.out.frame ((hf1.non hf2).non hf23) (fun h => h))).mono ?_
  rintro e w4 ⟨rfl, hf4⟩
  have hx1 := run_str (P := Tryd.prog) w4 22 9 5 (.slice a l.length c) l ((HB.out.non hf23).non hf4) Tryd.underlying22 Tryd.underlying5 Tryd.underlying9
  have hx2 := run_str (P := Tryd.prog) w4 22 9 5 v2 l ((HO.out.row.non hf23).non hf4) Tryd.underlying22 Tryd.underlying5 Tryd.underlying9
  go_wp2_with fail
  go_ret
  exact ⟨by simp, ((hf1.non hf2).non hf23).non hf4⟩

/-- P3.2: a nil state -/
theorem nil3w (C : ShaC T SS Bl Bm) (hshown : ∀ w, T w → Calls Tryd.prog 8 #[] w fun e w' => e = .returned (.bool true) ∧ Fr Non w w')
    (W : World) (v : Value) (l : List UInt8) (hT : T W) (hv : Row W v (bs l)) :
    Calls Tryd.prog 7 #[v] W fun e w' => e = .returned (.bool true) ∧ Fr Non W w' := by
  have HT := Lib.hid hT
  have HV := Lib.hid hv
  have HC := Lib.hid C
  have heq := eqDigest_same []
  have HSH := Lib.hid hshown
  clear hT hv C hshown
  go_enter Tryd.func7, Tryd.ntmps7
  go_wp2_with fail
  refine (HC.out.nwrite HV.out).mono ?_
  rintro e w1 ⟨rfl, rfl⟩
  go_wp2_with fail
  refine (HSH.out _ HT.out).mono ?_
  rintro e w1 ⟨rfl, hf1⟩
  go_wp2_with fail
  refine HC.out.nlen.mono ?_
  rintro e w' ⟨rfl, rfl⟩
  go_wp2_with fail
  refine (HC.out.nsum (HC.out.tf HT.out hf1)).mono ?_
  rintro e w2 ⟨rfl, hf2⟩
  go_wp2_with fail
  refine (HC.out.all (ls := []) (HC.out.tf HT.out (hf1.non hf2)) ⟨[], Row.nil _, rfl, by simp⟩ (by simp) (by simp)).mono ?_
  rintro e w3 ⟨rfl, hf3⟩
  go_wp2_with fail
  go_ret
  exact ⟨rfl, (hf1.non hf2).non hf3⟩
end Go.Proofs.YtelagmelnkdheaaDoor
