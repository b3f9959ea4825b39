/- layer 4: what is made of a key; what is equal -/
import Derived.Test.YtajknmapggkmnaaDoorLaw04A
import Derived.Test.YtajknmapggkmnaaDoorLaid
namespace Go.Proofs.YtajknmapggkmnaaDoor
open Go.ChangeShapes Go.WideShapes Go.ChangeAt Go.RowKit

theorem kat_of {W : World} {g : Nat} (h : ∀ (i : Nat) (z : Int), (shaK.map fun n : Nat => (n : Int))[i]? = some z → W.cell? ⟨g, i, none⟩ = some (.int .u32 z)) : KAt W g := by
  intro i hi
  refine h i _ ?_
  rw [List.getElem?_map, List.getElem?_eq_getElem (by rw [shaK_length]; exact hi), getElem!_pos shaK i (by rw [shaK_length]; exact hi)]
  rfl
theorem stat_of {W : World} {g : Nat} (h : ∀ (i : Nat) (z : Int), (shaInit.list.map fun n : Nat => (n : Int))[i]? = some z → W.cell? ⟨g, i, none⟩ = some (.int .u32 z)) : StAt W g := by
  intro i hi
  refine h i _ ?_
  have hl : shaInit.list.length = 8 := rfl
  rw [List.getElem?_map, List.getElem?_eq_getElem (by omega), getElem!_pos shaInit.list i (by omega)]
  rfl
theorem shaT_3 {W : World} (h : laidMetH Tryd.prog Rows.macExpandsRow.laid W) : ShaT W ∧ KAt W 1 := by
  obtain ⟨ps, h, -⟩ := h
  obtain ⟨⟨q1, h1⟩, f1⟩ := laid_cons h
  obtain ⟨⟨q2, h2⟩, f2⟩ := laid_cons h1
  obtain ⟨-, f3⟩ := laid_cons h2
  refine ⟨⟨kat_of ?_, stat_of ?_⟩, kat_of ?_⟩
  · exact f2 (t := 66) (n := 64) (zs := shaK.map fun n : Nat => (n : Int)) rfl (by kernel_rfl) (by kernel_rfl) (by kernel_rfl) Tryd.underlying54 (by kernel_rfl)
  · exact f1 (t := 55) (n := 8) (zs := shaInit.list.map fun n : Nat => (n : Int)) rfl (by kernel_rfl) (by kernel_rfl) (by kernel_rfl) Tryd.underlying54 (by kernel_rfl)
  · exact f3 (t := 66) (n := 64) (zs := shaK.map fun n : Nat => (n : Int)) rfl (by kernel_rfl) (by kernel_rfl) (by kernel_rfl) Tryd.underlying54 (by kernel_rfl)
theorem shaT_2 {W : World} (h : laidMetH Tryd.prog Rows.macEqualsRow.laid W) : ShaT W := by
  obtain ⟨ps, h, -⟩ := h
  obtain ⟨⟨q1, h1⟩, f1⟩ := laid_cons h
  obtain ⟨-, f2⟩ := laid_cons h1
  refine ⟨kat_of ?_, stat_of ?_⟩
  · exact f2 (t := 66) (n := 64) (zs := shaK.map fun n : Nat => (n : Int)) rfl (by kernel_rfl) (by kernel_rfl) (by kernel_rfl) Tryd.underlying54 (by kernel_rfl)
  · exact f1 (t := 55) (n := 8) (zs := shaInit.list.map fun n : Nat => (n : Int)) rfl (by kernel_rfl) (by kernel_rfl) (by kernel_rfl) Tryd.underlying54 (by kernel_rfl)

set_option maxRecDepth 100000 in
set_option maxHeartbeats 1000000 in
/-- P4.2 -/
theorem expands4_any (W : World) (v : Value) (key : List UInt8) (u : Value) (use : List UInt8) (n : Int) (hL : laidMetH Tryd.prog Rows.macExpandsRow.laid W) (hv : Row W v (bs key)) (hl : key.length ≤ 140737488351232) (hu : Row W u (bs use)) (hul : use.length ≤ 140737488351232) (hn : IntKind.i64.min ≤ n ∧ n ≤ IntKind.i64.max) :
    Calls Tryd.prog 4 #[v, u, .int .i64 n] W fun e W' => e = .returned (.bool true) ∧ Fr Non W W' := by
  have hT := shaT_3 hL
  have HV := Lib.hid hv
  have HU := Lib.hid hu
  have HT := Lib.hid hT.1
  have HK := Lib.hid hT.2
  clear hL hv hu hT
  go_enter Tryd.func4, Tryd.ntmps4
  go_wp2_with fail
  by_cases hr : n < 0 ∨ 8160 < n
  · refine (expandOp_no v u n W hr).mono ?_
    rintro e w1 ⟨rfl, rfl⟩
    go_wp2_with fail
    refine (expandRef_no v u n W hr).mono ?_
    rintro e w1 ⟨rfl, rfl⟩
    go_wp2_with fail
    refine (shown4_any W HT.out).mono ?_
    rintro e w1 ⟨rfl, hf1⟩
    have hx := run_str (P := Tryd.prog) w1 22 9 5 (.slice none 0 0) [] (Row.nil w1) Tryd.underlying22 Tryd.underlying5 Tryd.underlying9
    go_wp2_with fail
    go_ret
    exact ⟨rfl, hf1⟩
  · obtain ⟨m, rfl⟩ : ∃ m : Nat, n = m := ⟨n.toNat, by omega⟩
    have hm : m ≤ 8160 := by omega
    clear hr
    refine (expandOp_any v u key use m W HV.out hl HU.out hul hm HT.out).mono ?_
    rintro e w1 ⟨v1, rfl, ho1, hf1⟩
    have HO1 := Lib.hid ho1
    have HF1 := Lib.hid hf1
    clear ho1 hf1
    go_wp2_with fail
    refine (expandRef_any v u key use m w1 (HV.out.non HF1.out) hl (HU.out.non HF1.out) (by omega) hm (HK.out.frame HF1.out (fun h => h))).mono ?_
    rintro e w2 ⟨v2, rfl, hr2, hf2⟩
    have HR2 := Lib.hid hr2
    have HF2 := Lib.hid hf2
    clear hr2 hf2
    go_wp2_with fail
    refine (shown4_any w2 (HT.out.non (HF1.out.non HF2.out))).mono ?_
    rintro e w3 ⟨rfl, hf3⟩
    have hx1 := run_str (P := Tryd.prog) w3 22 9 5 _ _ ((HO1.out.row.non HF2.out).non hf3) Tryd.underlying22 Tryd.underlying5 Tryd.underlying9
    have hx2 := run_str (P := Tryd.prog) w3 22 9 5 _ _ (HR2.out.non hf3) Tryd.underlying22 Tryd.underlying5 Tryd.underlying9
    go_wp2_with fail
    go_ret
    exact ⟨by simp, (HF1.out.non HF2.out).non hf3⟩

set_option maxRecDepth 100000 in
set_option maxHeartbeats 1000000 in
/-- P4.3 -/
theorem equals4_any (W : World) (v : Value) (a : List UInt8) (u : Value) (b : List UInt8) (hL : laidMetH Tryd.prog Rows.macEqualsRow.laid W) (hv : Row W v (bs a)) (hl : a.length ≤ 140737488351232) (hu : Row W u (bs b)) (_ : b.length ≤ 140737488351232) :
    Calls Tryd.prog 5 #[v, u] W fun e W' => e = .returned (.bool true) ∧ Fr Non W W' := by
  obtain ⟨i0, hi⟩ := info_parts Tryd.info5
  have HI := Lib.hid hi
  have HT := Lib.hid (shaT_2 hL)
  have HV := Lib.hid hv
  have HU := Lib.hid hu
  clear hi hL hv hu
  go_enter Tryd.func5, Tryd.ntmps5
  go_wp2_with fail
  refine (shown4_any W HT.out).mono ?_
  rintro e w1 ⟨rfl, hf1⟩
  have HF1 := Lib.hid hf1
  clear hf1
  go_wp2_with fail
  refine (equalOp_any v u a b w1 (HV.out.non HF1.out) (HU.out.non HF1.out)).mono ?_
  rintro e w2 ⟨rfl, hf2⟩
  have HF2 := Lib.hid (HF1.out.non hf2)
  clear hf2
  go_wp2_with fail
  refine (equalRef_any v u a b w2 (HV.out.non HF2.out) (HU.out.non HF2.out)).mono ?_
  rintro e w3 ⟨rfl, rfl⟩
  generalize (a == b) = q
  have hq : (q == q) = true := by simp
  go_wp2_with ((with_reducible show wpList _ _ _ (({ op := .call { callee := .builtin .append, .. }, guard := some _, .. } : Oper) :: _) _ _); refine wpList_unguard (by rfl) ?_; refine wpList_appRow _ rfl (.tmp 17) (.tmp 18) 22 rfl w2.heap.size 5 i0 (.int .u8 0) 1 Tryd.underlying22 HI.out rfl _ [] rfl (Own.empty _ _ _ (Nat.le_refl _)) _ (bs a) rfl ((HV.out.non HF2.out).non (Fr.alloc _ _)) (bs_one _) ⟨by rw [bs_length]; simp; omega, by omega⟩ (Fr.alloc _ _).size ?_)
  intro v4 w4 hown hfr hmv
  have HO4 : Hid (Own w4 w2.heap.size 5 v4 (bs a)) := Lib.hid hown
  have HF4 : Hid (Fr Non w2 w4) := Lib.hid ((Fr.alloc _ _).new hfr (fun i hi => by cases hi; exact Nat.le_refl _))
  clear hown hfr hmv
  go_wp2_with fail
  refine (equalOp_any v v4 a a w4 ((HV.out.non HF2.out).non HF4.out) HO4.out.row).mono ?_
  rintro e w5 ⟨rfl, hf5⟩
  have ha : (a == a) = true := by simp
  go_wp2_with fail
  go_ret
  exact ⟨rfl, (HF2.out.non HF4.out).non hf5⟩
end Go.Proofs.YtajknmapggkmnaaDoor
